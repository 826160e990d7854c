/- The walk of PpolySums. -/
import Derived.Test.YtlndchmpnnlacaaDoorPmR
namespace Go.Proofs.YtlndchmpnnlacaaDoor
open Go.RowKit

set_option maxRecDepth 100000 in
set_option maxHeartbeats 16000000 in
theorem law_sums_yes (p a : Nat) (A B : Option Addr) (f g : List Int) (c d : Nat) (w : World) (hg : TabG w) (kA : KL .u32 w w.heap.size A f) (kB : KL .u32 w w.heap.size B g)
    (hf : MayP p f) (hgg : MayP p g) (lf : f.length ≤ 21) (lg : g.length ≤ 21) (cap_f : f.length ≤ c) (_cap_g : g.length ≤ d) (_ha : a ≤ 4294967295) :
    Calls Tryd.prog 4 #[.agg #[.int .u32 (p : Int), .slice A f.length c], .agg #[.int .u32 (p : Int), .slice B g.length d], .int .u32 (a : Int)] w fun e w' => e = .returned (.bool true) ∧ Below w.heap.size w w' := by
  have hp : p ≤ 2147483647 := hf.1.2.1
  have hp0 : 0 < p := by have := hf.1.1; omega
  have hpr : PrimeN p := hf.1.prime
  have P_f := hf.2
  have P_g := hgg.2
  obtain ⟨k, hk⟩ : ∃ k, a % p = k := ⟨_, rfl⟩
  have hkp : k < p := by rw [← hk]; exact Nat.mod_lt _ hp0
  obtain ⟨hk1, hk2⟩ := mod_parts hk
  obtain ⟨m, e_m⟩ : ∃ x, monP p f = x := ⟨_, rfl⟩
  have P_m : Pol p m := by rw [← e_m]; exact scaleP_pol hp0
  have L_m : m.length ≤ 100 := by rw [← e_m]; have := monP_len p f; omega
  obtain ⟨d1, e_d1⟩ : ∃ x, derP p f = x := ⟨_, rfl⟩
  have P_d1 : Pol p d1 := by rw [← e_d1]; exact derP_pol hp0
  have L_d1 : d1.length ≤ 100 := by rw [← e_d1]; have := derP_le p f; omega
  obtain ⟨s1, e_s1⟩ : ∃ x, scaleP p (k : Int) f = x := ⟨_, rfl⟩
  have P_s1 : Pol p s1 := by rw [← e_s1]; exact scaleP_pol hp0
  have L_s1 : s1.length ≤ 100 := by rw [← e_s1]; have := scaleP_len p (k : Int) f; omega
  obtain ⟨a1, e_a1⟩ : ∃ x, addP p f g = x := ⟨_, rfl⟩
  have P_a1 : Pol p a1 := by rw [← e_a1]; exact addP_pol hp0
  have L_a1 : a1.length ≤ 100 := by rw [← e_a1]; have := addP_le p f g; omega
  obtain ⟨b1, e_b1⟩ : ∃ x, subP p f g = x := ⟨_, rfl⟩
  have P_b1 : Pol p b1 := by rw [← e_b1]; exact subP_pol hp0
  have L_b1 : b1.length ≤ 100 := by rw [← e_b1]; have := subP_len (p := p) (xs := f) (ys := g); omega
  obtain ⟨m1, e_m1⟩ : ∃ x, mulP p f g = x := ⟨_, rfl⟩
  have P_m1 : Pol p m1 := by rw [← e_m1]; exact mulP_pol hp0
  have L_m1 : m1.length ≤ 100 := by rw [← e_m1]; have := mulP_le p f g; omega
  obtain ⟨va, hva, hvap⟩ : ∃ v : Nat, valZ f k % p = (v : Int) ∧ v < p := ⟨(valZ f k % p).toNat, by have := Int.emod_nonneg (valZ f k) (show (p : Int) ≠ 0 by omega); omega, by have := Int.emod_nonneg (valZ f k) (show (p : Int) ≠ 0 by omega); have := Int.emod_lt_of_pos (valZ f k) (show (0 : Int) < p by omega); omega⟩
  obtain ⟨ld, hld⟩ : ∃ ld, lead f = ld := ⟨_, rfl⟩
  have HB0 : Hid (Box2 w p p (.slice A f.length c) (.slice B g.length d) ((w.alloc (.cells #[.int .u32 (p : Int), .slice A f.length c] 25)).alloc (.cells #[.int .u32 (p : Int), .slice B g.length d] 25))) := Lib.hid (box2_start w p p _ _ _ _)
  have HAWK : Hid (∀ W : World, Below w.heap.size w W → Calls Tryd.prog 12 #[] W fun e w' => e = .returned (.bool true) ∧ Below W.heap.size W w') := Lib.hid fun W hW => awake_any W (hg.up hW)
  have HP1 : Hid (∀ W : World, Below w.heap.size w W → Calls Tryd.prog 17 #[.agg #[.int .u32 (p : Int), .slice A f.length c], .agg #[.int .u32 (p : Int), .slice B g.length d], .int .i64 20] W fun e w' => e = .returned (.bool true) ∧ Below W.heap.size W w') := Lib.hid fun W hW =>
    (pair_any p p 20 A B f g c d W (kA.up hW) (kB.up hW) (by omega) (by omega) (P_f.1.w (by omega)) (P_g.1.w (by omega)) (by omega) (by omega) (by omega)).mono fun e w' ⟨⟨b, h1, h2⟩, h3⟩ => ⟨by rw [h1, h2.2 ⟨rfl, ⟨lf, hf⟩, lg, hgg⟩], h3⟩
  have HM1 : Hid (∀ W : World, Below w.heap.size w W → Calls Tryd.prog 22 #[.agg #[.int .u32 (p : Int), .slice A f.length c]] W fun e w' => MadeU p ld m W e w') := Lib.hid fun W hW => by
    rw [← e_m, ← hld]; exact monic_any p A f c W (kA.up hW) hp hpr P_f (by omega)
  have HM2 : Hid (∀ W : World, Below w.heap.size w W → Calls Tryd.prog 23 #[.agg #[.int .u32 (p : Int), .slice A f.length c]] W fun e w' => MadeU p ld m W e w') := Lib.hid fun W hW => by
    rw [← e_m, ← hld]; exact rmonic_any p A f c W (kA.up hW) hp hpr P_f (by omega)
  have H_d1 := fun W0 : World => Lib.hid (pdiff (W0 := W0) hp hp0 P_f (by omega) e_d1)
  have H_d1r := fun W0 : World => Lib.hid (prdiff (W0 := W0) hp hp0 P_f (by omega) e_d1)
  have H_s1 := fun W0 : World => Lib.hid (pscale (W0 := W0) hp hp0 P_f (by omega) hkp e_s1)
  have H_s1r := fun W0 : World => Lib.hid (prscale (W0 := W0) hp hp0 P_f (by omega) hkp e_s1)
  have H_a1 := fun W0 : World => Lib.hid (padd (W0 := W0) hp hp0 P_f P_g (by omega) (by omega) e_a1)
  have H_a1r := fun W0 : World => Lib.hid (pradd (W0 := W0) hp hp0 P_f P_g (by omega) (by omega) e_a1)
  have H_b1 := fun W0 : World => Lib.hid (psub (W0 := W0) hp hp0 P_f P_g (by omega) (by omega) e_b1)
  have H_b1r := fun W0 : World => Lib.hid (prsub (W0 := W0) hp hp0 P_f P_g (by omega) (by omega) e_b1)
  have H_m1 := fun W0 : World => Lib.hid (pmul (W0 := W0) hp hp0 P_f P_g (by omega) (by omega) e_m1)
  have H_m1r := fun W0 : World => Lib.hid (prmul (W0 := W0) hp hp0 P_f P_g (by omega) (by omega) e_m1)
  have H_va := fun W0 : World => Lib.hid (pvalue (W0 := W0) hp hp0 P_f (by omega) hkp hva)
  have H_var := fun W0 : World => Lib.hid (prvalue (W0 := W0) hp hp0 P_f (by omega) hkp hva)
  have H_qm := fun W0 : World => Lib.hid (psame (W0 := W0) hp P_m P_m (by omega) (by omega) rfl)
  have H_qd1 := fun W0 : World => Lib.hid (psame (W0 := W0) hp P_d1 P_d1 (by omega) (by omega) rfl)
  have H_qs1 := fun W0 : World => Lib.hid (psame (W0 := W0) hp P_s1 P_s1 (by omega) (by omega) rfl)
  have H_qa1 := fun W0 : World => Lib.hid (psame (W0 := W0) hp P_a1 P_a1 (by omega) (by omega) rfl)
  have H_qb1 := fun W0 : World => Lib.hid (psame (W0 := W0) hp P_b1 P_b1 (by omega) (by omega) rfl)
  have H_qm1 := fun W0 : World => Lib.hid (psame (W0 := W0) hp P_m1 P_m1 (by omega) (by omega) rfl)
  have x8 : ((va : Int) != (va : Int)) = false := by simp
  have x9 : (ld != ld) = false := by simp
  have hp1 : ((p : Int) == 0) = false := by rw [beq_eq_false_iff_ne]; omega
  have hp2 : p ≠ 0 := by omega
  have KA := Lib.hid kA
  have KB := Lib.hid kB
  clear e_m P_m L_m e_d1 P_d1 L_d1 e_s1 P_s1 L_s1 e_a1 P_a1 L_a1 e_b1 P_b1 L_b1 e_m1 P_m1 L_m1 hk hva hld hf hgg P_f P_g kA kB hg lf lg hpr
  go_enter Tryd.func4, Tryd.ntmps4
  go_wp2_with (first
    | (go_at_call 12; (with_reducible refine (HAWK.out _ (by go_grown)).mono ?_); rintro e w1 ⟨rfl, hb1⟩; have HW1 := Lib.hid (HB0.out.up (hb1.mono (by simp))); obtain ⟨⟨f0, f1⟩, ⟨g0, g1⟩, hz1, hbw1⟩ := HW1.out; clear hb1)
    | (go_at_call 17; (with_reducible refine (HP1.out _ hbw1).mono ?_); rintro e w2 ⟨rfl, hb2⟩; have HW2 := Lib.hid (HW1.out.up (hb2.mono hz1)); clear f0 f1 g0 g1; obtain ⟨⟨f0, f1⟩, ⟨g0, g1⟩, hz2, hbw2⟩ := HW2.out; clear hb2)
    | (go_at_call 22; (with_reducible refine (HM1.out _ hbw2).mono ?_); rintro e w3 ⟨MA, mc, rfl, hM, cap_m, hb3⟩; have HW3 := Lib.hid (HW2.out.up (hb3.mono hz2)); have HW3a := Lib.hid (fun o : Obj => HW3.out.up ((Below.refl (w.heap.size + 1 + 1) w3).alloc HW3.out.2.2.1 o)); have HK3 := Lib.hid hM.kl; clear f0 f1 g0 g1 hb3 hM; have f0 := fun o => (HW3a.out o).1.1; have f1 := fun o => (HW3a.out o).1.2; have hbw3 := fun o => (HW3a.out o).2.2.2)
    | (go_at_call 23; (with_reducible refine (HM2.out _ (hbw3 _)).mono ?_); rintro e w4 ⟨VA, vc, rfl, hV, cap_v, hb4⟩; have HW4 := Lib.hid ((HW3a.out (.cells #[.int .u32 (p : Int), .slice MA m.length mc] 25)).up (hb4.mono (HW3a.out _).2.2.1)); have HK4 := Lib.hid ((HK3.out.up ((Below.refl _ _).alloc (Nat.le_refl _) _)).up hb4); have HV4 := Lib.hid hV.kl; have HC4 := Lib.hid (show w4.cell? ⟨w3.heap.size, 0, none⟩ = some (.int .u32 (p : Int)) ∧ w4.cell? ⟨w3.heap.size, 1, none⟩ = some (.slice MA m.length mc) ∧ w3.heap.size < w4.heap.size from ⟨(hb4.cell (p := ⟨w3.heap.size, 0, none⟩) (by simp)).trans (by go_cell), (hb4.cell (p := ⟨w3.heap.size, 1, none⟩) (by simp)).trans (by go_cell), (by have := hb4.size; simp only [World.size_alloc] at this; omega)⟩); clear hV hb4))
  have HE : Hid (∃ W0 : World, w4.alloc (.cells #[.int .u32 (p : Int), .slice VA m.length vc] 25) = W0 ∧ Box2 w p p (.slice A f.length c) (.slice B g.length d) W0 ∧ (W0.cell? ⟨w3.heap.size, 0, none⟩ = some (.int .u32 (p : Int)) ∧ W0.cell? ⟨w3.heap.size, 1, none⟩ = some (.slice MA m.length mc)) ∧ (W0.cell? ⟨w4.heap.size, 0, none⟩ = some (.int .u32 (p : Int)) ∧ W0.cell? ⟨w4.heap.size, 1, none⟩ = some (.slice VA m.length vc)) ∧ KL .u32 W0 W0.heap.size MA m ∧ KL .u32 W0 W0.heap.size VA m ∧ w3.heap.size < W0.heap.size ∧ w4.heap.size < W0.heap.size) := Lib.hid
    ⟨_, rfl, HW4.out.up ((Below.refl _ _).alloc HW4.out.2.2.1 _), ⟨one_new HC4.out.1 _, one_new HC4.out.2.1 _⟩, ⟨by go_cell, by go_cell⟩, HK4.out.up ((Below.refl _ _).alloc (Nat.le_refl _) _), HV4.out.up ((Below.refl _ _).alloc (Nat.le_refl _) _), by have := HC4.out.2.2; simp; omega, by simp⟩
  obtain ⟨W0, hW0, hB2, ⟨c0, c1⟩, ⟨c2, c3⟩, hKM, hKV, hs3, hs4⟩ := HE.out
  rw [hW0]
  have KL_f := Lib.hid (kl_at KA.out hB2.2.2.2)
  have KL_g := Lib.hid (kl_at KB.out hB2.2.2.2)
  have KL_m : Hid (∀ W : World, Below W0.heap.size W0 W → KL .u32 W W.heap.size MA m) := Lib.hid fun W hb => hKM.up hb
  have KL_v : Hid (∀ W : World, Below W0.heap.size W0 W → KL .u32 W W.heap.size VA m) := Lib.hid fun W hb => hKV.up hb
  have HSX : Hid (∀ W : World, Below W0.heap.size W0 W → ((W.cell? ⟨w.heap.size, 0, none⟩ = some (.int .u32 (p : Int)) ∧ W.cell? ⟨w.heap.size, 1, none⟩ = some (.slice A f.length c)) ∧ (W.cell? ⟨w.heap.size + 1, 0, none⟩ = some (.int .u32 (p : Int)) ∧ W.cell? ⟨w.heap.size + 1, 1, none⟩ = some (.slice B g.length d))) ∧ (W.cell? ⟨w3.heap.size, 0, none⟩ = some (.int .u32 (p : Int)) ∧ W.cell? ⟨w3.heap.size, 1, none⟩ = some (.slice MA m.length mc)) ∧ (W.cell? ⟨w4.heap.size, 0, none⟩ = some (.int .u32 (p : Int)) ∧ W.cell? ⟨w4.heap.size, 1, none⟩ = some (.slice VA m.length vc))) := Lib.hid fun W hb => by
    have h3 := hB2.up (hb.mono hB2.2.2.1)
    exact ⟨⟨h3.1, h3.2.1⟩, ⟨(hb.cell (p := ⟨w3.heap.size, 0, none⟩) hs3).trans c0, (hb.cell (p := ⟨w3.heap.size, 1, none⟩) hs3).trans c1⟩, (hb.cell (p := ⟨w4.heap.size, 0, none⟩) hs4).trans c2, (hb.cell (p := ⟨w4.heap.size, 1, none⟩) hs4).trans c3⟩
  have HBW := Lib.hid hB2.2.2.2
  have HD0 : Hid (Below W0.heap.size W0 W0.drew) := Lib.hid (Below.refl _ _).drew
  clear hW0 HE hB2 c0 c1 c2 c3 hKM hKV hs3 hs4 HW1 HW2 HW3 HW3a HW4 f0 f1 hbw1 hbw2 hbw3 hz1 hz2 HAWK HP1 HM1 HM2 HK3 HK4 HV4 HC4 HB0
  have G_d1 := H_d1 W0
  clear H_d1
  have G_d1r := H_d1r W0
  clear H_d1r
  have G_s1 := H_s1 W0
  clear H_s1
  have G_s1r := H_s1r W0
  clear H_s1r
  have G_a1 := H_a1 W0
  clear H_a1
  have G_a1r := H_a1r W0
  clear H_a1r
  have G_b1 := H_b1 W0
  clear H_b1
  have G_b1r := H_b1r W0
  clear H_b1r
  have G_m1 := H_m1 W0
  clear H_m1
  have G_m1r := H_m1r W0
  clear H_m1r
  have G_va := H_va W0
  clear H_va
  have G_var := H_var W0
  clear H_var
  have G_qm := H_qm W0
  clear H_qm
  have G_qd1 := H_qd1 W0
  clear H_qd1
  have G_qs1 := H_qs1 W0
  clear H_qs1
  have G_qa1 := H_qa1 W0
  clear H_qa1
  have G_qb1 := H_qb1 W0
  clear H_qb1
  have G_qm1 := H_qm1 W0
  clear H_qm1
  refine wp_region_noPanic ?_
  refine wp_region_tail (fun (_ : Array Bool) (W : World) => ((W.cell? ⟨w.heap.size, 0, none⟩ = some (.int .u32 (p : Int)) ∧ W.cell? ⟨w.heap.size, 1, none⟩ = some (.slice A f.length c)) ∧ (W.cell? ⟨w.heap.size + 1, 0, none⟩ = some (.int .u32 (p : Int)) ∧ W.cell? ⟨w.heap.size + 1, 1, none⟩ = some (.slice B g.length d))) ∧ (W.cell? ⟨w3.heap.size, 0, none⟩ = some (.int .u32 (p : Int)) ∧ W.cell? ⟨w3.heap.size, 1, none⟩ = some (.slice MA m.length mc)) ∧ (W.cell? ⟨w4.heap.size, 0, none⟩ = some (.int .u32 (p : Int)) ∧ W.cell? ⟨w4.heap.size, 1, none⟩ = some (.slice VA m.length vc))) (by kernel_rfl) (HSX.out _ HD0.out) (fun hT => ?_)
  refine wpAnyT_take _ [] (i := 0) (oi := _) (v := ?_) (fun _ _ => Iff.rfl) (fun _ _ _ h => h) rfl (by kernel_rfl) (by kernel_rfl) (by kernel_rfl) (by kernel_rfl) (by kernel_rfl) (fun _ _ _ h => h) (by assumption) (Or.inl ⟨by kernel_rfl, ?_⟩) (fun hT => ?_)
  rotate_left 1
  · intro w hSw
    (try dsimp only at hSw)
    first | (go_simp; done) | (go_simp; with_reducible rfl)
  (try simp only [Act.put, List.getElem_toArray, List.getElem_cons_zero, List.setIfInBounds_toArray, List.set_cons_zero, List.set_cons_succ])
  refine wpAnyT_take _ [] (i := 1) (oi := _) (v := ?_) (fun _ _ => Iff.rfl) (fun _ _ _ h => h) rfl (by kernel_rfl) (by kernel_rfl) (by kernel_rfl) (by kernel_rfl) (by kernel_rfl) (fun _ _ _ h => h) (by assumption) (Or.inl ⟨by kernel_rfl, ?_⟩) (fun hT => ?_)
  rotate_left 1
  · intro w hSw
    (try dsimp only at hSw)
    first | (go_simp; done) | (go_simp; with_reducible rfl)
  (try simp only [Act.put, List.getElem_toArray, List.getElem_cons_succ, List.getElem_cons_zero, List.setIfInBounds_toArray, List.set_cons_zero, List.set_cons_succ])
  refine wpAnyT_take _ [] (i := 2) (oi := _) (v := ?_) (fun _ _ => Iff.rfl) (fun _ _ _ h => h) rfl (by kernel_rfl) (by kernel_rfl) (by kernel_rfl) (by kernel_rfl) (by kernel_rfl) (fun _ _ _ h => h) (by assumption) (Or.inl ⟨by kernel_rfl, ?_⟩) (fun hT => ?_)
  rotate_left 1
  · intro w hSw
    (try dsimp only at hSw)
    first | (go_simp; done) | (go_simp; with_reducible rfl)
  (try simp only [Act.put, List.getElem_toArray, List.getElem_cons_succ, List.getElem_cons_zero, List.setIfInBounds_toArray, List.set_cons_zero, List.set_cons_succ])
  refine wpAnyT_take _ [] (i := 3) (oi := _) (v := ?_) (fun _ _ => Iff.rfl) (fun _ _ _ h => h) rfl (by kernel_rfl) (by kernel_rfl) (by kernel_rfl) (by kernel_rfl) (by kernel_rfl) (fun _ _ _ h => h) (by assumption) (Or.inl ⟨by kernel_rfl, ?_⟩) (fun hT => ?_)
  rotate_left 1
  · intro w hSw
    (try dsimp only at hSw)
    first | (go_simp; done) | (go_simp; with_reducible rfl)
  (try simp only [Act.put, List.getElem_toArray, List.getElem_cons_succ, List.getElem_cons_zero, List.setIfInBounds_toArray, List.set_cons_zero, List.set_cons_succ])
  refine wpAnyT_take _ [] (i := 4) (oi := _) (v := ?_) (fun _ _ => Iff.rfl) (fun _ _ _ h => h) rfl (by kernel_rfl) (by kernel_rfl) (by kernel_rfl) (by kernel_rfl) (by kernel_rfl) (fun _ _ _ h => h) (by assumption) (Or.inl ⟨by kernel_rfl, ?_⟩) (fun hT => ?_)
  rotate_left 1
  · intro w hSw
    (try dsimp only at hSw)
    first | (go_simp; done) | (go_simp; with_reducible rfl)
  (try simp only [Act.put, List.getElem_toArray, List.getElem_cons_succ, List.getElem_cons_zero, List.setIfInBounds_toArray, List.set_cons_zero, List.set_cons_succ])
  refine wpAnyT_take _ [] (i := 5) (oi := _) (v := ?_) (fun _ _ => Iff.rfl) (fun _ _ _ h => h) rfl (by kernel_rfl) (by kernel_rfl) (by kernel_rfl) (by kernel_rfl) (by kernel_rfl) (fun _ _ _ h => h) (by assumption) (Or.inl ⟨by kernel_rfl, ?_⟩) (fun hT => ?_)
  rotate_left 1
  · intro w hSw
    (try dsimp only at hSw)
    first | (go_simp; done) | (go_simp; with_reducible rfl)
  (try simp only [Act.put, List.getElem_toArray, List.getElem_cons_succ, List.getElem_cons_zero, List.setIfInBounds_toArray, List.set_cons_zero, List.set_cons_succ])
  refine wpAnyT_one (i := 6) (by kernel_rfl) (oi := _) rfl (fun K hK => ?_)
  (try dsimp only [List.getElem_toArray, List.getElem_cons_succ, List.getElem_cons_zero])
  go_simp
  go_at_call 16
  (with_reducible refine (G_qm.out _ _ _ _ _ HD0.out (KL_m.out _ HD0.out) (KL_v.out _ HD0.out)).mono ?_)
  rintro e w5 ⟨rfl, hb5, hs5⟩
  go_wp2_with (fail)
  refine hK.out _ _ (HSX.out _ hb5) (fun hT => ?_)
  clear hK K
  (try simp only [Act.put, List.getElem_toArray, List.getElem_cons_succ, List.getElem_cons_zero, List.setIfInBounds_toArray, List.set_cons_zero, List.set_cons_succ])
  refine wpAnyT_take _ [] (i := 7) (oi := _) (v := ?_) (fun _ _ => Iff.rfl) (fun _ _ _ h => h) rfl (by kernel_rfl) (by kernel_rfl) (by kernel_rfl) (by kernel_rfl) (by kernel_rfl) (fun _ _ _ h => h) (by assumption) (Or.inl ⟨by kernel_rfl, ?_⟩) (fun hT => ?_)
  rotate_left 1
  · intro w hSw
    (try dsimp only at hSw)
    first | (go_simp; done) | (go_simp; with_reducible rfl)
  (try simp only [Act.put, List.getElem_toArray, List.getElem_cons_succ, List.getElem_cons_zero, List.setIfInBounds_toArray, List.set_cons_zero, List.set_cons_succ])
  refine wpAnyT_take _ [] (i := 8) (oi := _) (v := ?_) (fun _ _ => Iff.rfl) (fun _ _ _ h => h) rfl (by kernel_rfl) (by kernel_rfl) (by kernel_rfl) (by kernel_rfl) (by kernel_rfl) (fun _ _ _ h => h) (by assumption) (Or.inl ⟨by kernel_rfl, ?_⟩) (fun hT => ?_)
  rotate_left 1
  · intro w hSw
    (try dsimp only at hSw)
    first | (go_simp; done) | (go_simp; with_reducible rfl)
  (try simp only [Act.put, List.getElem_toArray, List.getElem_cons_succ, List.getElem_cons_zero, List.setIfInBounds_toArray, List.set_cons_zero, List.set_cons_succ])
  refine wpAnyT_take _ [] (i := 9) (oi := _) (v := ?_) (fun _ _ => Iff.rfl) (fun _ _ _ h => h) rfl (by kernel_rfl) (by kernel_rfl) (by kernel_rfl) (by kernel_rfl) (by kernel_rfl) (fun _ _ _ h => h) (by assumption) (Or.inl ⟨by kernel_rfl, ?_⟩) (fun hT => ?_)
  rotate_left 1
  · intro w hSw
    (try dsimp only at hSw)
    first | (go_simp; done) | (go_simp; with_reducible rfl)
  (try simp only [Act.put, List.getElem_toArray, List.getElem_cons_succ, List.getElem_cons_zero, List.setIfInBounds_toArray, List.set_cons_zero, List.set_cons_succ])
  refine wpAnyT_take _ [] (i := 10) (oi := _) (v := ?_) (fun _ _ => Iff.rfl) (fun _ _ _ h => h) rfl (by kernel_rfl) (by kernel_rfl) (by kernel_rfl) (by kernel_rfl) (by kernel_rfl) (fun _ _ _ h => h) (by assumption) (Or.inl ⟨by kernel_rfl, ?_⟩) (fun hT => ?_)
  rotate_left 1
  · intro w hSw
    (try dsimp only at hSw)
    first | (go_simp; done) | (go_simp; with_reducible rfl)
  (try simp only [Act.put, List.getElem_toArray, List.getElem_cons_succ, List.getElem_cons_zero, List.setIfInBounds_toArray, List.set_cons_zero, List.set_cons_succ])
  refine wpAnyT_take _ [] (i := 11) (oi := _) (v := ?_) (fun _ _ => Iff.rfl) (fun _ _ _ h => h) rfl (by kernel_rfl) (by kernel_rfl) (by kernel_rfl) (by kernel_rfl) (by kernel_rfl) (fun _ _ _ h => h) (by assumption) (Or.inl ⟨by kernel_rfl, ?_⟩) (fun hT => ?_)
  rotate_left 1
  · intro w hSw
    (try dsimp only at hSw)
    first | (go_simp; done) | (go_simp; with_reducible rfl)
  (try simp only [Act.put, List.getElem_toArray, List.getElem_cons_succ, List.getElem_cons_zero, List.setIfInBounds_toArray, List.set_cons_zero, List.set_cons_succ])
  refine wpAnyT_take _ [] (i := 13) (oi := _) (v := ?_) (fun _ _ => Iff.rfl) (fun _ _ _ h => h) rfl (by kernel_rfl) (by kernel_rfl) (by kernel_rfl) (by kernel_rfl) (by kernel_rfl) (fun _ _ _ h => h) (by assumption) (Or.inl ⟨by kernel_rfl, ?_⟩) (fun hT => ?_)
  rotate_left 1
  · intro w hSw
    (try dsimp only at hSw)
    first | (go_simp; done) | (go_simp; with_reducible rfl)
  (try simp only [Act.put, List.getElem_toArray, List.getElem_cons_succ, List.getElem_cons_zero, List.setIfInBounds_toArray, List.set_cons_zero, List.set_cons_succ])
  refine wpAnyT_take _ [] (i := 14) (oi := _) (v := ?_) (fun _ _ => Iff.rfl) (fun _ _ _ h => h) rfl (by kernel_rfl) (by kernel_rfl) (by kernel_rfl) (by kernel_rfl) (by kernel_rfl) (fun _ _ _ h => h) (by assumption) (Or.inl ⟨by kernel_rfl, ?_⟩) (fun hT => ?_)
  rotate_left 1
  · intro w hSw
    (try dsimp only at hSw)
    first | (go_simp; done) | (go_simp; with_reducible rfl)
  (try simp only [Act.put, List.getElem_toArray, List.getElem_cons_succ, List.getElem_cons_zero, List.setIfInBounds_toArray, List.set_cons_zero, List.set_cons_succ])
  refine wpAnyT_one (i := 12) (by kernel_rfl) (oi := _) rfl (fun K hK => ?_)
  (try dsimp only [List.getElem_toArray, List.getElem_cons_succ, List.getElem_cons_zero])
  go_simp
  go_at_call 24
  (with_reducible refine (G_va.out _ _ _ hb5 (KL_f.out _ hb5)).mono ?_)
  rintro e w6 ⟨rfl, hb6, hs6⟩
  go_wp2_with (fail)
  refine hK.out _ _ (HSX.out _ hb6) (fun hT => ?_)
  clear hK K
  (try simp only [Act.put, List.getElem_toArray, List.getElem_cons_succ, List.getElem_cons_zero, List.setIfInBounds_toArray, List.set_cons_zero, List.set_cons_succ])
  refine wpAnyT_one (i := 15) (by kernel_rfl) (oi := _) rfl (fun K hK => ?_)
  (try dsimp only [List.getElem_toArray, List.getElem_cons_succ, List.getElem_cons_zero])
  go_simp
  go_at_call 25
  (with_reducible refine (G_var.out _ _ _ hb6 (KL_f.out _ hb6)).mono ?_)
  rintro e w7 ⟨rfl, hb7, hs7⟩
  go_wp2_with (fail)
  refine hK.out _ _ (HSX.out _ hb7) (fun hT => ?_)
  clear hK K
  (try simp only [Act.put, List.getElem_toArray, List.getElem_cons_succ, List.getElem_cons_zero, List.setIfInBounds_toArray, List.set_cons_zero, List.set_cons_succ])
  refine wpAnyT_take _ [] (i := 16) (oi := _) (v := ?_) (fun _ _ => Iff.rfl) (fun _ _ _ h => h) rfl (by kernel_rfl) (by kernel_rfl) (by kernel_rfl) (by kernel_rfl) (by kernel_rfl) (fun _ _ _ h => h) (by assumption) (Or.inl ⟨by kernel_rfl, ?_⟩) (fun hT => ?_)
  rotate_left 1
  · intro w hSw
    (try dsimp only at hSw)
    first | (go_simp; done) | (go_simp; with_reducible rfl)
  (try simp only [Act.put, List.getElem_toArray, List.getElem_cons_succ, List.getElem_cons_zero, List.setIfInBounds_toArray, List.set_cons_zero, List.set_cons_succ])
  refine wpAnyT_take _ [] (i := 17) (oi := _) (v := ?_) (fun _ _ => Iff.rfl) (fun _ _ _ h => h) rfl (by kernel_rfl) (by kernel_rfl) (by kernel_rfl) (by kernel_rfl) (by kernel_rfl) (fun _ _ _ h => h) (by assumption) (Or.inl ⟨by kernel_rfl, ?_⟩) (fun hT => ?_)
  rotate_left 1
  · intro w hSw
    (try dsimp only at hSw)
    first | (go_simp; done) | (go_simp; with_reducible rfl)
  (try simp only [Act.put, List.getElem_toArray, List.getElem_cons_succ, List.getElem_cons_zero, List.setIfInBounds_toArray, List.set_cons_zero, List.set_cons_succ])
  refine wpAnyT_take _ [] (i := 18) (oi := _) (v := ?_) (fun _ _ => Iff.rfl) (fun _ _ _ h => h) rfl (by kernel_rfl) (by kernel_rfl) (by kernel_rfl) (by kernel_rfl) (by kernel_rfl) (fun _ _ _ h => h) (by assumption) (Or.inl ⟨by kernel_rfl, ?_⟩) (fun hT => ?_)
  rotate_left 1
  · intro w hSw
    (try dsimp only at hSw)
    first | (go_simp; done) | (go_simp; with_reducible rfl)
  (try simp only [Act.put, List.getElem_toArray, List.getElem_cons_succ, List.getElem_cons_zero, List.setIfInBounds_toArray, List.set_cons_zero, List.set_cons_succ])
  refine wpAnyT_take _ [] (i := 19) (oi := _) (v := ?_) (fun _ _ => Iff.rfl) (fun _ _ _ h => h) rfl (by kernel_rfl) (by kernel_rfl) (by kernel_rfl) (by kernel_rfl) (by kernel_rfl) (fun _ _ _ h => h) (by assumption) (Or.inl ⟨by kernel_rfl, ?_⟩) (fun hT => ?_)
  rotate_left 1
  · intro w hSw
    (try dsimp only at hSw)
    first | (go_simp; done) | (go_simp; with_reducible rfl)
  (try simp only [Act.put, List.getElem_toArray, List.getElem_cons_succ, List.getElem_cons_zero, List.setIfInBounds_toArray, List.set_cons_zero, List.set_cons_succ])
  refine wpAnyT_take _ [] (i := 21) (oi := _) (v := ?_) (fun _ _ => Iff.rfl) (fun _ _ _ h => h) rfl (by kernel_rfl) (by kernel_rfl) (by kernel_rfl) (by kernel_rfl) (by kernel_rfl) (fun _ _ _ h => h) (by assumption) (Or.inl ⟨by kernel_rfl, ?_⟩) (fun hT => ?_)
  rotate_left 1
  · intro w hSw
    (try dsimp only at hSw)
    first | (go_simp; done) | (go_simp; with_reducible rfl)
  (try simp only [Act.put, List.getElem_toArray, List.getElem_cons_succ, List.getElem_cons_zero, List.setIfInBounds_toArray, List.set_cons_zero, List.set_cons_succ])
  refine wpAnyT_one (i := 20) (by kernel_rfl) (oi := _) rfl (fun K hK => ?_)
  (try dsimp only [List.getElem_toArray, List.getElem_cons_succ, List.getElem_cons_zero])
  go_simp
  go_at_call 26
  (with_reducible refine (G_d1.out _ _ _ hb7 (KL_f.out _ hb7)).mono ?_)
  rintro e w8 ⟨A_d1, c_d1, rfl, h_d1, hc_d1, hb8, hs8⟩
  go_wp2_with (fail)
  refine hK.out _ _ (HSX.out _ hb8) (fun hT => ?_)
  clear hK K
  (try simp only [Act.put, List.getElem_toArray, List.getElem_cons_succ, List.getElem_cons_zero, List.setIfInBounds_toArray, List.set_cons_zero, List.set_cons_succ])
  refine wpAnyT_one (i := 22) (by kernel_rfl) (oi := _) rfl (fun K hK => ?_)
  (try dsimp only [List.getElem_toArray, List.getElem_cons_succ, List.getElem_cons_zero])
  go_simp
  go_at_call 27
  (with_reducible refine (G_d1r.out _ _ _ hb8 (KL_f.out _ hb8)).mono ?_)
  rintro e w9 ⟨A_d1r, c_d1r, rfl, h_d1r, hc_d1r, hb9, hs9⟩
  have h_d1 := h_d1.below hs9
  go_wp2_with (fail)
  refine hK.out _ _ (HSX.out _ hb9) (fun hT => ?_)
  clear hK K
  (try simp only [Act.put, List.getElem_toArray, List.getElem_cons_succ, List.getElem_cons_zero, List.setIfInBounds_toArray, List.set_cons_zero, List.set_cons_succ])
  refine wpAnyT_one (i := 23) (by kernel_rfl) (oi := _) rfl (fun K hK => ?_)
  (try dsimp only [List.getElem_toArray, List.getElem_cons_succ, List.getElem_cons_zero])
  go_simp
  go_at_call 16
  (with_reducible refine (G_qd1.out _ _ _ _ _ hb9 h_d1.kl h_d1r.kl).mono ?_)
  rintro e w10 ⟨rfl, hb10, hs10⟩
  have h_d1 := h_d1.below hs10
  have h_d1r := h_d1r.below hs10
  go_wp2_with (fail)
  refine hK.out _ _ (HSX.out _ hb10) (fun hT => ?_)
  clear hK K
  (try simp only [Act.put, List.getElem_toArray, List.getElem_cons_succ, List.getElem_cons_zero, List.setIfInBounds_toArray, List.set_cons_zero, List.set_cons_succ])
  refine wpAnyT_take _ [] (i := 24) (oi := _) (v := ?_) (fun _ _ => Iff.rfl) (fun _ _ _ h => h) rfl (by kernel_rfl) (by kernel_rfl) (by kernel_rfl) (by kernel_rfl) (by kernel_rfl) (fun _ _ _ h => h) (by assumption) (Or.inl ⟨by kernel_rfl, ?_⟩) (fun hT => ?_)
  rotate_left 1
  · intro w hSw
    (try dsimp only at hSw)
    first | (go_simp; done) | (go_simp; with_reducible rfl)
  (try simp only [Act.put, List.getElem_toArray, List.getElem_cons_succ, List.getElem_cons_zero, List.setIfInBounds_toArray, List.set_cons_zero, List.set_cons_succ])
  refine wpAnyT_take _ [] (i := 25) (oi := _) (v := ?_) (fun _ _ => Iff.rfl) (fun _ _ _ h => h) rfl (by kernel_rfl) (by kernel_rfl) (by kernel_rfl) (by kernel_rfl) (by kernel_rfl) (fun _ _ _ h => h) (by assumption) (Or.inl ⟨by kernel_rfl, ?_⟩) (fun hT => ?_)
  rotate_left 1
  · intro w hSw
    (try dsimp only at hSw)
    first | (go_simp; done) | (go_simp; with_reducible rfl)
  (try simp only [Act.put, List.getElem_toArray, List.getElem_cons_succ, List.getElem_cons_zero, List.setIfInBounds_toArray, List.set_cons_zero, List.set_cons_succ])
  refine wpAnyT_take _ [] (i := 26) (oi := _) (v := ?_) (fun _ _ => Iff.rfl) (fun _ _ _ h => h) rfl (by kernel_rfl) (by kernel_rfl) (by kernel_rfl) (by kernel_rfl) (by kernel_rfl) (fun _ _ _ h => h) (by assumption) (Or.inl ⟨by kernel_rfl, ?_⟩) (fun hT => ?_)
  rotate_left 1
  · intro w hSw
    (try dsimp only at hSw)
    first | (go_simp; done) | (go_simp; with_reducible rfl)
  (try simp only [Act.put, List.getElem_toArray, List.getElem_cons_succ, List.getElem_cons_zero, List.setIfInBounds_toArray, List.set_cons_zero, List.set_cons_succ])
  refine wpAnyT_take _ [] (i := 27) (oi := _) (v := ?_) (fun _ _ => Iff.rfl) (fun _ _ _ h => h) rfl (by kernel_rfl) (by kernel_rfl) (by kernel_rfl) (by kernel_rfl) (by kernel_rfl) (fun _ _ _ h => h) (by assumption) (Or.inl ⟨by kernel_rfl, ?_⟩) (fun hT => ?_)
  rotate_left 1
  · intro w hSw
    (try dsimp only at hSw)
    first | (go_simp; done) | (go_simp; with_reducible rfl)
  (try simp only [Act.put, List.getElem_toArray, List.getElem_cons_succ, List.getElem_cons_zero, List.setIfInBounds_toArray, List.set_cons_zero, List.set_cons_succ])
  refine wpAnyT_take _ [] (i := 28) (oi := _) (v := ?_) (fun _ _ => Iff.rfl) (fun _ _ _ h => h) rfl (by kernel_rfl) (by kernel_rfl) (by kernel_rfl) (by kernel_rfl) (by kernel_rfl) (fun _ _ _ h => h) (by assumption) (Or.inl ⟨by kernel_rfl, ?_⟩) (fun hT => ?_)
  rotate_left 1
  · intro w hSw
    (try dsimp only at hSw)
    first | (go_simp; done) | (go_simp; with_reducible rfl)
  (try simp only [Act.put, List.getElem_toArray, List.getElem_cons_succ, List.getElem_cons_zero, List.setIfInBounds_toArray, List.set_cons_zero, List.set_cons_succ])
  refine wpAnyT_take _ [] (i := 30) (oi := _) (v := ?_) (fun _ _ => Iff.rfl) (fun _ _ _ h => h) rfl (by kernel_rfl) (by kernel_rfl) (by kernel_rfl) (by kernel_rfl) (by kernel_rfl) (fun _ _ _ h => h) (by assumption) (Or.inl ⟨by kernel_rfl, ?_⟩) (fun hT => ?_)
  rotate_left 1
  · intro w hSw
    (try dsimp only at hSw)
    first | (go_simp; done) | (go_simp; with_reducible rfl)
  (try simp only [Act.put, List.getElem_toArray, List.getElem_cons_succ, List.getElem_cons_zero, List.setIfInBounds_toArray, List.set_cons_zero, List.set_cons_succ])
  refine wpAnyT_take _ [] (i := 31) (oi := _) (v := ?_) (fun _ _ => Iff.rfl) (fun _ _ _ h => h) rfl (by kernel_rfl) (by kernel_rfl) (by kernel_rfl) (by kernel_rfl) (by kernel_rfl) (fun _ _ _ h => h) (by assumption) (Or.inl ⟨by kernel_rfl, ?_⟩) (fun hT => ?_)
  rotate_left 1
  · intro w hSw
    (try dsimp only at hSw)
    first | (go_simp; done) | (go_simp; with_reducible rfl)
  (try simp only [Act.put, List.getElem_toArray, List.getElem_cons_succ, List.getElem_cons_zero, List.setIfInBounds_toArray, List.set_cons_zero, List.set_cons_succ])
  refine wpAnyT_one (i := 29) (by kernel_rfl) (oi := _) rfl (fun K hK => ?_)
  (try dsimp only [List.getElem_toArray, List.getElem_cons_succ, List.getElem_cons_zero])
  go_simp
  go_at_call 28
  (with_reducible refine (G_s1.out _ _ _ hb10 (KL_f.out _ hb10)).mono ?_)
  rintro e w11 ⟨A_s1, c_s1, rfl, h_s1, hc_s1, hb11, hs11⟩
  go_wp2_with (fail)
  refine hK.out _ _ (HSX.out _ hb11) (fun hT => ?_)
  clear hK K
  (try simp only [Act.put, List.getElem_toArray, List.getElem_cons_succ, List.getElem_cons_zero, List.setIfInBounds_toArray, List.set_cons_zero, List.set_cons_succ])
  refine wpAnyT_one (i := 32) (by kernel_rfl) (oi := _) rfl (fun K hK => ?_)
  (try dsimp only [List.getElem_toArray, List.getElem_cons_succ, List.getElem_cons_zero])
  go_simp
  go_at_call 29
  (with_reducible refine (G_s1r.out _ _ _ hb11 (KL_f.out _ hb11)).mono ?_)
  rintro e w12 ⟨A_s1r, c_s1r, rfl, h_s1r, hc_s1r, hb12, hs12⟩
  have h_s1 := h_s1.below hs12
  go_wp2_with (fail)
  refine hK.out _ _ (HSX.out _ hb12) (fun hT => ?_)
  clear hK K
  (try simp only [Act.put, List.getElem_toArray, List.getElem_cons_succ, List.getElem_cons_zero, List.setIfInBounds_toArray, List.set_cons_zero, List.set_cons_succ])
  refine wpAnyT_one (i := 33) (by kernel_rfl) (oi := _) rfl (fun K hK => ?_)
  (try dsimp only [List.getElem_toArray, List.getElem_cons_succ, List.getElem_cons_zero])
  go_simp
  go_at_call 16
  (with_reducible refine (G_qs1.out _ _ _ _ _ hb12 h_s1.kl h_s1r.kl).mono ?_)
  rintro e w13 ⟨rfl, hb13, hs13⟩
  have h_s1 := h_s1.below hs13
  have h_s1r := h_s1r.below hs13
  go_wp2_with (fail)
  refine hK.out _ _ (HSX.out _ hb13) (fun hT => ?_)
  clear hK K
  (try simp only [Act.put, List.getElem_toArray, List.getElem_cons_succ, List.getElem_cons_zero, List.setIfInBounds_toArray, List.set_cons_zero, List.set_cons_succ])
  refine wpAnyT_take _ [] (i := 34) (oi := _) (v := ?_) (fun _ _ => Iff.rfl) (fun _ _ _ h => h) rfl (by kernel_rfl) (by kernel_rfl) (by kernel_rfl) (by kernel_rfl) (by kernel_rfl) (fun _ _ _ h => h) (by assumption) (Or.inl ⟨by kernel_rfl, ?_⟩) (fun hT => ?_)
  rotate_left 1
  · intro w hSw
    (try dsimp only at hSw)
    first | (go_simp; done) | (go_simp; with_reducible rfl)
  (try simp only [Act.put, List.getElem_toArray, List.getElem_cons_succ, List.getElem_cons_zero, List.setIfInBounds_toArray, List.set_cons_zero, List.set_cons_succ])
  refine wpAnyT_take _ [] (i := 35) (oi := _) (v := ?_) (fun _ _ => Iff.rfl) (fun _ _ _ h => h) rfl (by kernel_rfl) (by kernel_rfl) (by kernel_rfl) (by kernel_rfl) (by kernel_rfl) (fun _ _ _ h => h) (by assumption) (Or.inl ⟨by kernel_rfl, ?_⟩) (fun hT => ?_)
  rotate_left 1
  · intro w hSw
    (try dsimp only at hSw)
    first | (go_simp; done) | (go_simp; with_reducible rfl)
  (try simp only [Act.put, List.getElem_toArray, List.getElem_cons_succ, List.getElem_cons_zero, List.setIfInBounds_toArray, List.set_cons_zero, List.set_cons_succ])
  refine wpAnyT_done (by kernel_rfl) ?_ _
  refine NoPanic.normal ?_
  have HD1 := Lib.hid (hb13.drew)
  go_wp2
  refine wp_region_noPanic ?_
  refine wp_region_tail (fun (_ : Array Bool) (W : World) => ((W.cell? ⟨w.heap.size, 0, none⟩ = some (.int .u32 (p : Int)) ∧ W.cell? ⟨w.heap.size, 1, none⟩ = some (.slice A f.length c)) ∧ (W.cell? ⟨w.heap.size + 1, 0, none⟩ = some (.int .u32 (p : Int)) ∧ W.cell? ⟨w.heap.size + 1, 1, none⟩ = some (.slice B g.length d))) ∧ (W.cell? ⟨w3.heap.size, 0, none⟩ = some (.int .u32 (p : Int)) ∧ W.cell? ⟨w3.heap.size, 1, none⟩ = some (.slice MA m.length mc)) ∧ (W.cell? ⟨w4.heap.size, 0, none⟩ = some (.int .u32 (p : Int)) ∧ W.cell? ⟨w4.heap.size, 1, none⟩ = some (.slice VA m.length vc))) (by kernel_rfl) (HSX.out _ HD1.out) (fun hT => ?_)
  refine wpAnyT_take _ [] (i := 0) (oi := _) (v := ?_) (fun _ _ => Iff.rfl) (fun _ _ _ h => h) rfl (by kernel_rfl) (by kernel_rfl) (by kernel_rfl) (by kernel_rfl) (by kernel_rfl) (fun _ _ _ h => h) (by assumption) (Or.inl ⟨by kernel_rfl, ?_⟩) (fun hT => ?_)
  rotate_left 1
  · intro w hSw
    (try dsimp only at hSw)
    first | (go_simp; done) | (go_simp; with_reducible rfl)
  (try simp only [Act.put, List.getElem_toArray, List.getElem_cons_zero, List.setIfInBounds_toArray, List.set_cons_zero, List.set_cons_succ])
  refine wpAnyT_take _ [] (i := 1) (oi := _) (v := ?_) (fun _ _ => Iff.rfl) (fun _ _ _ h => h) rfl (by kernel_rfl) (by kernel_rfl) (by kernel_rfl) (by kernel_rfl) (by kernel_rfl) (fun _ _ _ h => h) (by assumption) (Or.inl ⟨by kernel_rfl, ?_⟩) (fun hT => ?_)
  rotate_left 1
  · intro w hSw
    (try dsimp only at hSw)
    first | (go_simp; done) | (go_simp; with_reducible rfl)
  (try simp only [Act.put, List.getElem_toArray, List.getElem_cons_succ, List.getElem_cons_zero, List.setIfInBounds_toArray, List.set_cons_zero, List.set_cons_succ])
  refine wpAnyT_take _ [] (i := 3) (oi := _) (v := ?_) (fun _ _ => Iff.rfl) (fun _ _ _ h => h) rfl (by kernel_rfl) (by kernel_rfl) (by kernel_rfl) (by kernel_rfl) (by kernel_rfl) (fun _ _ _ h => h) (by assumption) (Or.inl ⟨by kernel_rfl, ?_⟩) (fun hT => ?_)
  rotate_left 1
  · intro w hSw
    (try dsimp only at hSw)
    first | (go_simp; done) | (go_simp; with_reducible rfl)
  (try simp only [Act.put, List.getElem_toArray, List.getElem_cons_succ, List.getElem_cons_zero, List.setIfInBounds_toArray, List.set_cons_zero, List.set_cons_succ])
  refine wpAnyT_take _ [] (i := 4) (oi := _) (v := ?_) (fun _ _ => Iff.rfl) (fun _ _ _ h => h) rfl (by kernel_rfl) (by kernel_rfl) (by kernel_rfl) (by kernel_rfl) (by kernel_rfl) (fun _ _ _ h => h) (by assumption) (Or.inl ⟨by kernel_rfl, ?_⟩) (fun hT => ?_)
  rotate_left 1
  · intro w hSw
    (try dsimp only at hSw)
    first | (go_simp; done) | (go_simp; with_reducible rfl)
  (try simp only [Act.put, List.getElem_toArray, List.getElem_cons_succ, List.getElem_cons_zero, List.setIfInBounds_toArray, List.set_cons_zero, List.set_cons_succ])
  refine wpAnyT_one (i := 2) (by kernel_rfl) (oi := _) rfl (fun K hK => ?_)
  (try dsimp only [List.getElem_toArray, List.getElem_cons_succ, List.getElem_cons_zero])
  go_simp
  go_at_call 30
  (with_reducible refine (G_a1.out _ _ _ _ _ HD1.out (KL_f.out _ HD1.out) cap_f (KL_g.out _ HD1.out)).mono ?_)
  rintro e w14 ⟨A_a1, c_a1, rfl, h_a1, hc_a1, hb14, hs14⟩
  go_wp2_with (fail)
  refine hK.out _ _ (HSX.out _ hb14) (fun hT => ?_)
  clear hK K
  (try simp only [Act.put, List.getElem_toArray, List.getElem_cons_succ, List.getElem_cons_zero, List.setIfInBounds_toArray, List.set_cons_zero, List.set_cons_succ])
  refine wpAnyT_one (i := 5) (by kernel_rfl) (oi := _) rfl (fun K hK => ?_)
  (try dsimp only [List.getElem_toArray, List.getElem_cons_succ, List.getElem_cons_zero])
  go_simp
  go_at_call 31
  (with_reducible refine (G_a1r.out _ _ _ _ _ hb14 (KL_f.out _ hb14) cap_f (KL_g.out _ hb14)).mono ?_)
  rintro e w15 ⟨A_a1r, c_a1r, rfl, h_a1r, hc_a1r, hb15, hs15⟩
  have h_a1 := h_a1.below hs15
  go_wp2_with (fail)
  refine hK.out _ _ (HSX.out _ hb15) (fun hT => ?_)
  clear hK K
  (try simp only [Act.put, List.getElem_toArray, List.getElem_cons_succ, List.getElem_cons_zero, List.setIfInBounds_toArray, List.set_cons_zero, List.set_cons_succ])
  refine wpAnyT_one (i := 6) (by kernel_rfl) (oi := _) rfl (fun K hK => ?_)
  (try dsimp only [List.getElem_toArray, List.getElem_cons_succ, List.getElem_cons_zero])
  go_simp
  go_at_call 16
  (with_reducible refine (G_qa1.out _ _ _ _ _ hb15 h_a1.kl h_a1r.kl).mono ?_)
  rintro e w16 ⟨rfl, hb16, hs16⟩
  have h_a1 := h_a1.below hs16
  have h_a1r := h_a1r.below hs16
  go_wp2_with (fail)
  refine hK.out _ _ (HSX.out _ hb16) (fun hT => ?_)
  clear hK K
  (try simp only [Act.put, List.getElem_toArray, List.getElem_cons_succ, List.getElem_cons_zero, List.setIfInBounds_toArray, List.set_cons_zero, List.set_cons_succ])
  refine wpAnyT_take _ [] (i := 7) (oi := _) (v := ?_) (fun _ _ => Iff.rfl) (fun _ _ _ h => h) rfl (by kernel_rfl) (by kernel_rfl) (by kernel_rfl) (by kernel_rfl) (by kernel_rfl) (fun _ _ _ h => h) (by assumption) (Or.inl ⟨by kernel_rfl, ?_⟩) (fun hT => ?_)
  rotate_left 1
  · intro w hSw
    (try dsimp only at hSw)
    first | (go_simp; done) | (go_simp; with_reducible rfl)
  (try simp only [Act.put, List.getElem_toArray, List.getElem_cons_succ, List.getElem_cons_zero, List.setIfInBounds_toArray, List.set_cons_zero, List.set_cons_succ])
  refine wpAnyT_take _ [] (i := 8) (oi := _) (v := ?_) (fun _ _ => Iff.rfl) (fun _ _ _ h => h) rfl (by kernel_rfl) (by kernel_rfl) (by kernel_rfl) (by kernel_rfl) (by kernel_rfl) (fun _ _ _ h => h) (by assumption) (Or.inl ⟨by kernel_rfl, ?_⟩) (fun hT => ?_)
  rotate_left 1
  · intro w hSw
    (try dsimp only at hSw)
    first | (go_simp; done) | (go_simp; with_reducible rfl)
  (try simp only [Act.put, List.getElem_toArray, List.getElem_cons_succ, List.getElem_cons_zero, List.setIfInBounds_toArray, List.set_cons_zero, List.set_cons_succ])
  refine wpAnyT_take _ [] (i := 9) (oi := _) (v := ?_) (fun _ _ => Iff.rfl) (fun _ _ _ h => h) rfl (by kernel_rfl) (by kernel_rfl) (by kernel_rfl) (by kernel_rfl) (by kernel_rfl) (fun _ _ _ h => h) (by assumption) (Or.inl ⟨by kernel_rfl, ?_⟩) (fun hT => ?_)
  rotate_left 1
  · intro w hSw
    (try dsimp only at hSw)
    first | (go_simp; done) | (go_simp; with_reducible rfl)
  (try simp only [Act.put, List.getElem_toArray, List.getElem_cons_succ, List.getElem_cons_zero, List.setIfInBounds_toArray, List.set_cons_zero, List.set_cons_succ])
  refine wpAnyT_take _ [] (i := 11) (oi := _) (v := ?_) (fun _ _ => Iff.rfl) (fun _ _ _ h => h) rfl (by kernel_rfl) (by kernel_rfl) (by kernel_rfl) (by kernel_rfl) (by kernel_rfl) (fun _ _ _ h => h) (by assumption) (Or.inl ⟨by kernel_rfl, ?_⟩) (fun hT => ?_)
  rotate_left 1
  · intro w hSw
    (try dsimp only at hSw)
    first | (go_simp; done) | (go_simp; with_reducible rfl)
  (try simp only [Act.put, List.getElem_toArray, List.getElem_cons_succ, List.getElem_cons_zero, List.setIfInBounds_toArray, List.set_cons_zero, List.set_cons_succ])
  refine wpAnyT_take _ [] (i := 12) (oi := _) (v := ?_) (fun _ _ => Iff.rfl) (fun _ _ _ h => h) rfl (by kernel_rfl) (by kernel_rfl) (by kernel_rfl) (by kernel_rfl) (by kernel_rfl) (fun _ _ _ h => h) (by assumption) (Or.inl ⟨by kernel_rfl, ?_⟩) (fun hT => ?_)
  rotate_left 1
  · intro w hSw
    (try dsimp only at hSw)
    first | (go_simp; done) | (go_simp; with_reducible rfl)
  (try simp only [Act.put, List.getElem_toArray, List.getElem_cons_succ, List.getElem_cons_zero, List.setIfInBounds_toArray, List.set_cons_zero, List.set_cons_succ])
  refine wpAnyT_one (i := 10) (by kernel_rfl) (oi := _) rfl (fun K hK => ?_)
  (try dsimp only [List.getElem_toArray, List.getElem_cons_succ, List.getElem_cons_zero])
  go_simp
  go_at_call 32
  (with_reducible refine (G_b1.out _ _ _ _ _ hb16 (KL_f.out _ hb16) cap_f (KL_g.out _ hb16)).mono ?_)
  rintro e w17 ⟨A_b1, c_b1, rfl, h_b1, hc_b1, hb17, hs17⟩
  go_wp2_with (fail)
  refine hK.out _ _ (HSX.out _ hb17) (fun hT => ?_)
  clear hK K
  (try simp only [Act.put, List.getElem_toArray, List.getElem_cons_succ, List.getElem_cons_zero, List.setIfInBounds_toArray, List.set_cons_zero, List.set_cons_succ])
  refine wpAnyT_one (i := 13) (by kernel_rfl) (oi := _) rfl (fun K hK => ?_)
  (try dsimp only [List.getElem_toArray, List.getElem_cons_succ, List.getElem_cons_zero])
  go_simp
  go_at_call 33
  (with_reducible refine (G_b1r.out _ _ _ _ _ hb17 (KL_f.out _ hb17) cap_f (KL_g.out _ hb17)).mono ?_)
  rintro e w18 ⟨A_b1r, c_b1r, rfl, h_b1r, hc_b1r, hb18, hs18⟩
  have h_b1 := h_b1.below hs18
  go_wp2_with (fail)
  refine hK.out _ _ (HSX.out _ hb18) (fun hT => ?_)
  clear hK K
  (try simp only [Act.put, List.getElem_toArray, List.getElem_cons_succ, List.getElem_cons_zero, List.setIfInBounds_toArray, List.set_cons_zero, List.set_cons_succ])
  refine wpAnyT_one (i := 14) (by kernel_rfl) (oi := _) rfl (fun K hK => ?_)
  (try dsimp only [List.getElem_toArray, List.getElem_cons_succ, List.getElem_cons_zero])
  go_simp
  go_at_call 16
  (with_reducible refine (G_qb1.out _ _ _ _ _ hb18 h_b1.kl h_b1r.kl).mono ?_)
  rintro e w19 ⟨rfl, hb19, hs19⟩
  have h_b1 := h_b1.below hs19
  have h_b1r := h_b1r.below hs19
  go_wp2_with (fail)
  refine hK.out _ _ (HSX.out _ hb19) (fun hT => ?_)
  clear hK K
  (try simp only [Act.put, List.getElem_toArray, List.getElem_cons_succ, List.getElem_cons_zero, List.setIfInBounds_toArray, List.set_cons_zero, List.set_cons_succ])
  refine wpAnyT_take _ [] (i := 15) (oi := _) (v := ?_) (fun _ _ => Iff.rfl) (fun _ _ _ h => h) rfl (by kernel_rfl) (by kernel_rfl) (by kernel_rfl) (by kernel_rfl) (by kernel_rfl) (fun _ _ _ h => h) (by assumption) (Or.inl ⟨by kernel_rfl, ?_⟩) (fun hT => ?_)
  rotate_left 1
  · intro w hSw
    (try dsimp only at hSw)
    first | (go_simp; done) | (go_simp; with_reducible rfl)
  (try simp only [Act.put, List.getElem_toArray, List.getElem_cons_succ, List.getElem_cons_zero, List.setIfInBounds_toArray, List.set_cons_zero, List.set_cons_succ])
  refine wpAnyT_take _ [] (i := 16) (oi := _) (v := ?_) (fun _ _ => Iff.rfl) (fun _ _ _ h => h) rfl (by kernel_rfl) (by kernel_rfl) (by kernel_rfl) (by kernel_rfl) (by kernel_rfl) (fun _ _ _ h => h) (by assumption) (Or.inl ⟨by kernel_rfl, ?_⟩) (fun hT => ?_)
  rotate_left 1
  · intro w hSw
    (try dsimp only at hSw)
    first | (go_simp; done) | (go_simp; with_reducible rfl)
  (try simp only [Act.put, List.getElem_toArray, List.getElem_cons_succ, List.getElem_cons_zero, List.setIfInBounds_toArray, List.set_cons_zero, List.set_cons_succ])
  refine wpAnyT_take _ [] (i := 17) (oi := _) (v := ?_) (fun _ _ => Iff.rfl) (fun _ _ _ h => h) rfl (by kernel_rfl) (by kernel_rfl) (by kernel_rfl) (by kernel_rfl) (by kernel_rfl) (fun _ _ _ h => h) (by assumption) (Or.inl ⟨by kernel_rfl, ?_⟩) (fun hT => ?_)
  rotate_left 1
  · intro w hSw
    (try dsimp only at hSw)
    first | (go_simp; done) | (go_simp; with_reducible rfl)
  (try simp only [Act.put, List.getElem_toArray, List.getElem_cons_succ, List.getElem_cons_zero, List.setIfInBounds_toArray, List.set_cons_zero, List.set_cons_succ])
  refine wpAnyT_take _ [] (i := 18) (oi := _) (v := ?_) (fun _ _ => Iff.rfl) (fun _ _ _ h => h) rfl (by kernel_rfl) (by kernel_rfl) (by kernel_rfl) (by kernel_rfl) (by kernel_rfl) (fun _ _ _ h => h) (by assumption) (Or.inl ⟨by kernel_rfl, ?_⟩) (fun hT => ?_)
  rotate_left 1
  · intro w hSw
    (try dsimp only at hSw)
    first | (go_simp; done) | (go_simp; with_reducible rfl)
  (try simp only [Act.put, List.getElem_toArray, List.getElem_cons_succ, List.getElem_cons_zero, List.setIfInBounds_toArray, List.set_cons_zero, List.set_cons_succ])
  refine wpAnyT_take _ [] (i := 20) (oi := _) (v := ?_) (fun _ _ => Iff.rfl) (fun _ _ _ h => h) rfl (by kernel_rfl) (by kernel_rfl) (by kernel_rfl) (by kernel_rfl) (by kernel_rfl) (fun _ _ _ h => h) (by assumption) (Or.inl ⟨by kernel_rfl, ?_⟩) (fun hT => ?_)
  rotate_left 1
  · intro w hSw
    (try dsimp only at hSw)
    first | (go_simp; done) | (go_simp; with_reducible rfl)
  (try simp only [Act.put, List.getElem_toArray, List.getElem_cons_succ, List.getElem_cons_zero, List.setIfInBounds_toArray, List.set_cons_zero, List.set_cons_succ])
  refine wpAnyT_take _ [] (i := 21) (oi := _) (v := ?_) (fun _ _ => Iff.rfl) (fun _ _ _ h => h) rfl (by kernel_rfl) (by kernel_rfl) (by kernel_rfl) (by kernel_rfl) (by kernel_rfl) (fun _ _ _ h => h) (by assumption) (Or.inl ⟨by kernel_rfl, ?_⟩) (fun hT => ?_)
  rotate_left 1
  · intro w hSw
    (try dsimp only at hSw)
    first | (go_simp; done) | (go_simp; with_reducible rfl)
  (try simp only [Act.put, List.getElem_toArray, List.getElem_cons_succ, List.getElem_cons_zero, List.setIfInBounds_toArray, List.set_cons_zero, List.set_cons_succ])
  refine wpAnyT_one (i := 19) (by kernel_rfl) (oi := _) rfl (fun K hK => ?_)
  (try dsimp only [List.getElem_toArray, List.getElem_cons_succ, List.getElem_cons_zero])
  go_simp
  go_at_call 34
  (with_reducible refine (G_m1.out _ _ _ _ _ hb19 (KL_f.out _ hb19) cap_f (KL_g.out _ hb19)).mono ?_)
  rintro e w20 ⟨A_m1, c_m1, rfl, h_m1, hc_m1, hb20, hs20⟩
  go_wp2_with (fail)
  refine hK.out _ _ (HSX.out _ hb20) (fun hT => ?_)
  clear hK K
  (try simp only [Act.put, List.getElem_toArray, List.getElem_cons_succ, List.getElem_cons_zero, List.setIfInBounds_toArray, List.set_cons_zero, List.set_cons_succ])
  refine wpAnyT_one (i := 22) (by kernel_rfl) (oi := _) rfl (fun K hK => ?_)
  (try dsimp only [List.getElem_toArray, List.getElem_cons_succ, List.getElem_cons_zero])
  go_simp
  go_at_call 35
  (with_reducible refine (G_m1r.out _ _ _ _ _ hb20 (KL_f.out _ hb20) cap_f (KL_g.out _ hb20)).mono ?_)
  rintro e w21 ⟨A_m1r, c_m1r, rfl, h_m1r, hc_m1r, hb21, hs21⟩
  have h_m1 := h_m1.below hs21
  go_wp2_with (fail)
  refine hK.out _ _ (HSX.out _ hb21) (fun hT => ?_)
  clear hK K
  (try simp only [Act.put, List.getElem_toArray, List.getElem_cons_succ, List.getElem_cons_zero, List.setIfInBounds_toArray, List.set_cons_zero, List.set_cons_succ])
  refine wpAnyT_one (i := 23) (by kernel_rfl) (oi := _) rfl (fun K hK => ?_)
  (try dsimp only [List.getElem_toArray, List.getElem_cons_succ, List.getElem_cons_zero])
  go_simp
  go_at_call 16
  (with_reducible refine (G_qm1.out _ _ _ _ _ hb21 h_m1.kl h_m1r.kl).mono ?_)
  rintro e w22 ⟨rfl, hb22, hs22⟩
  have h_m1 := h_m1.below hs22
  have h_m1r := h_m1r.below hs22
  go_wp2_with (fail)
  refine hK.out _ _ (HSX.out _ hb22) (fun hT => ?_)
  clear hK K
  (try simp only [Act.put, List.getElem_toArray, List.getElem_cons_succ, List.getElem_cons_zero, List.setIfInBounds_toArray, List.set_cons_zero, List.set_cons_succ])
  refine wpAnyT_take _ [] (i := 24) (oi := _) (v := ?_) (fun _ _ => Iff.rfl) (fun _ _ _ h => h) rfl (by kernel_rfl) (by kernel_rfl) (by kernel_rfl) (by kernel_rfl) (by kernel_rfl) (fun _ _ _ h => h) (by assumption) (Or.inl ⟨by kernel_rfl, ?_⟩) (fun hT => ?_)
  rotate_left 1
  · intro w hSw
    (try dsimp only at hSw)
    first | (go_simp; done) | (go_simp; with_reducible rfl)
  (try simp only [Act.put, List.getElem_toArray, List.getElem_cons_succ, List.getElem_cons_zero, List.setIfInBounds_toArray, List.set_cons_zero, List.set_cons_succ])
  refine wpAnyT_take _ [] (i := 25) (oi := _) (v := ?_) (fun _ _ => Iff.rfl) (fun _ _ _ h => h) rfl (by kernel_rfl) (by kernel_rfl) (by kernel_rfl) (by kernel_rfl) (by kernel_rfl) (fun _ _ _ h => h) (by assumption) (Or.inl ⟨by kernel_rfl, ?_⟩) (fun hT => ?_)
  rotate_left 1
  · intro w hSw
    (try dsimp only at hSw)
    first | (go_simp; done) | (go_simp; with_reducible rfl)
  (try simp only [Act.put, List.getElem_toArray, List.getElem_cons_succ, List.getElem_cons_zero, List.setIfInBounds_toArray, List.set_cons_zero, List.set_cons_succ])
  refine wpAnyT_done (by kernel_rfl) ?_ _
  refine NoPanic.normal ?_
  go_wp2
  go_ret
  exact ⟨ret_bool (by first | rfl | (simp; done)), below_chain HBW.out hb22⟩
end Go.Proofs.YtlndchmpnnlacaaDoor
