/- The walk of PpolyDivides. -/
import Derived.Test.YtlndchmpnnlacaaDoorPmR
import Derived.Test.YtlndchmpnnlacaaDoorRefE
import Derived.Test.YtlndchmpnnlacaaDoorPair
namespace Go.Proofs.YtlndchmpnnlacaaDoor
open Go.RowKit

/-- Behind the first division: its quotient and its rest in their boxes. -/
def DvB (w : World) (p : Nat) (vf vg : Value) (b : Nat) (A1 A2 : Option Addr) (q r : List Int) (c1 c2 : Nat) (W : World) : Prop :=
  Box2 w p p vf vg W ∧ (BoxQ W b (.int .u32 (p : Int)) (.slice A1 q.length c1) ∧ BoxQ W (b + 1) (.int .u32 (p : Int)) (.slice A2 r.length c2)) ∧ KL .u32 W W.heap.size A1 q ∧ KL .u32 W W.heap.size A2 r
theorem Box2.up' {w : World} {p q : Nat} {v u : Value} {W W' : World} (h : Box2 w p q v u W) (hb : Below W.heap.size W W') : Box2 w p q v u W' := h.up (hb.mono h.2.2.1)
theorem DvB.up {w : World} {p : Nat} {vf vg : Value} {b : Nat} {A1 A2 : Option Addr} {q r : List Int} {c1 c2 : Nat} {W W' : World} (h : DvB w p vf vg b A1 A2 q r c1 c2 W) (hb : Below W.heap.size W W') : DvB w p vf vg b A1 A2 q r c1 c2 W' :=
  ⟨h.1.up' hb, ⟨h.2.1.1.up hb, h.2.1.2.up hb⟩, h.2.2.1.up hb, h.2.2.2.up hb⟩
/-- Behind both. -/
def DvC (w : World) (p : Nat) (vf vg : Value) (b : Nat) (A1 A2 : Option Addr) (q r : List Int) (c1 c2 : Nat) (b' : Nat) (A3 A4 : Option Addr) (c3 c4 : Nat) (W : World) : Prop :=
  DvB w p vf vg b A1 A2 q r c1 c2 W ∧ DvB w p vf vg b' A3 A4 q r c3 c4 W
theorem DvC.up {w : World} {p : Nat} {vf vg : Value} {b : Nat} {A1 A2 : Option Addr} {q r : List Int} {c1 c2 : Nat} {b' : Nat} {A3 A4 : Option Addr} {c3 c4 : Nat} {W W' : World} (h : DvC w p vf vg b A1 A2 q r c1 c2 b' A3 A4 c3 c4 W) (hb : Below W.heap.size W W') : DvC w p vf vg b A1 A2 q r c1 c2 b' A3 A4 c3 c4 W' :=
  ⟨h.1.up hb, h.2.up hb⟩
theorem two_newc {W : World} {q : Addr} {v : Value} (h : W.cell? q = some v) : ∀ a b : Obj, ((W.alloc a).alloc b).cell? q = some v := fun a b => one_new (one_new h a) b
set_option maxRecDepth 100000 in
set_option maxHeartbeats 16000000 in
theorem law_div_yes (p : Nat) (A B : Option Addr) (f g : List Int) (c d : Nat) (w : World) (hg : TabG w) (kA : KL .u32 w w.heap.size A f) (kB : KL .u32 w w.heap.size B g)
    (hf : MayP p f) (hgg : MayP p g) (ng : g ≠ []) (lf : f.length ≤ 21) (lg : g.length ≤ 21) :
    Calls Tryd.prog 6 #[.agg #[.int .u32 (p : Int), .slice A f.length c], .agg #[.int .u32 (p : Int), .slice B g.length d]] w fun e w' => e = .returned (.bool true) ∧ Below w.heap.size w w' := by
  have hp : p ≤ 2147483647 := hf.1.2.1
  have hp0 : 0 < p := by have := hf.1.1; omega
  have hpr : PrimeN p := hf.1.prime
  have P_f := hf.2
  have P_g := hgg.2
  have hsp := divmod_spec hpr P_f P_g ng
  obtain ⟨q, e_q⟩ : ∃ x, divP p f g = x := ⟨_, rfl⟩
  obtain ⟨r, e_r⟩ : ∃ x, modP p f g = x := ⟨_, rfl⟩
  rw [e_q, e_r] at hsp
  have P_q := hsp.hq
  have P_r := hsp.hr
  have hrl := hsp.len
  have hqr : addP p (mulP p q g) r = f := (hsp.sum hp0 P_f).symm
  have L_q : q.length ≤ 1000 := by
    rw [← e_q]
    by_cases h0 : divP p f g = []
    · rw [h0]; simp
    · have := divP_len hpr P_f P_g ng h0; omega
  have L_r : r.length ≤ 1000 := by omega
  obtain ⟨m, e_m⟩ : ∃ x, mulP p q g = x := ⟨_, rfl⟩
  rw [e_m] at hqr
  have P_m : Pol p m := by rw [← e_m]; exact mulP_pol hp0
  have L_m : m.length ≤ 2000 := by rw [← e_m]; have := mulP_le p q g; omega
  have H_m := fun W0 : World => Lib.hid (pmul (W0 := W0) hp hp0 P_q P_g (by omega) (by omega) e_m)
  have H_f := fun W0 : World => Lib.hid (padd (W0 := W0) hp hp0 P_m P_r (by omega) (by omega) hqr)
  have H_s := fun W0 : World => Lib.hid (psame (W0 := W0) hp P_f P_f (by omega) (by omega) rfl)
  have H_dr := fun W0 : World => Lib.hid (show ∀ (W : World) (A : Option Addr) (c : Nat), Below W0.heap.size W0 W → Calls Tryd.prog 18 #[.agg #[.int .u32 (p : Int), .slice A r.length c]] W fun e w' => e = .returned (.int .i64 ((r.length : Int) - 1)) ∧ Below W0.heap.size W0 w' ∧ Below W.heap.size W w' from fun W A c hb => (deg_any p A r.length c W (by omega)).mono fun e w' ⟨h1, h2⟩ => ⟨h1, hb.trans (h2.mono hb.size), h2⟩)
  have H_dg := fun W0 : World => Lib.hid (show ∀ (W : World) (A : Option Addr) (c : Nat), Below W0.heap.size W0 W → Calls Tryd.prog 18 #[.agg #[.int .u32 (p : Int), .slice A g.length c]] W fun e w' => e = .returned (.int .i64 ((g.length : Int) - 1)) ∧ Below W0.heap.size W0 w' ∧ Below W.heap.size W w' from fun W A c hb => (deg_any p A g.length c W (by omega)).mono fun e w' ⟨h1, h2⟩ => ⟨h1, hb.trans (h2.mono hb.size), h2⟩)
  have HRL := Lib.hid hrl
  have x1 : decide ((r.length : Int) - 1 < (g.length : Int) - 1) = true := by simp; omega
  have HB0 : Hid (Box2 w p p (.slice A f.length c) (.slice B g.length d) ((w.alloc (.cells #[.int .u32 (p : Int), .slice A f.length c] 25)).alloc (.cells #[.int .u32 (p : Int), .slice B g.length d] 25))) := Lib.hid (box2_start w p p _ _ _ _)
  have HAWK : Hid (∀ W : World, Below w.heap.size w W → Calls Tryd.prog 12 #[] W fun e w' => e = .returned (.bool true) ∧ Below W.heap.size W w') := Lib.hid fun W hW => awake_any W (hg.up hW)
  have HP1 : Hid (∀ W : World, Below w.heap.size w W → Calls Tryd.prog 17 #[.agg #[.int .u32 (p : Int), .slice A f.length c], .agg #[.int .u32 (p : Int), .slice B g.length d], .int .i64 20] W fun e w' => e = .returned (.bool true) ∧ Below W.heap.size W w') := Lib.hid fun W hW =>
    (pair_any p p 20 A B f g c d W (kA.up hW) (kB.up hW) (by omega) (by omega) (P_f.1.w (by omega)) (P_g.1.w (by omega)) (by omega) (by omega) (by omega)).mono fun e w' ⟨⟨b, h1, h2⟩, h3⟩ => ⟨by rw [h1, h2.2 ⟨rfl, ⟨lf, hf⟩, lg, hgg⟩], h3⟩
  have HD1 : Hid (∀ W : World, Box2 w p p (.slice A f.length c) (.slice B g.length d) W → Calls Tryd.prog 46 #[.agg #[.int .u32 (p : Int), .slice A f.length c], .agg #[.int .u32 (p : Int), .slice B g.length d]] W fun e w' => ∃ QA qc RA rc, e = .returned (.tuple #[.agg #[.int .u32 (p : Int), .slice QA q.length qc], .agg #[.int .u32 (p : Int), .slice RA r.length rc], .int .i64 0]) ∧ (Box2 w p p (.slice A f.length c) (.slice B g.length d) w' ∧ KL .u32 w' w'.heap.size QA q ∧ KL .u32 w' w'.heap.size RA r) ∧ q.length ≤ qc ∧ r.length ≤ rc) := Lib.hid fun W hW => by
    rw [← e_q, ← e_r]
    refine (divmod_yes p A B f g c d W (kA.up hW.2.2.2) (kB.up hW.2.2.2) hp hpr P_f P_g ng (by omega) (by omega)).mono ?_
    rintro e w' ⟨QA, qc, RA, rc, h1, h2, h3, h4, h5, h6⟩
    exact ⟨QA, qc, RA, rc, h1, ⟨hW.up' h6, h2.kl, h3.kl⟩, h4, h5⟩
  have HD2 : Hid (∀ (b : Nat) (QA RA : Option Addr) (qc rc : Nat) (W : World), DvB w p (.slice A f.length c) (.slice B g.length d) b QA RA q r qc rc W → Calls Tryd.prog 47 #[.agg #[.int .u32 (p : Int), .slice A f.length c], .agg #[.int .u32 (p : Int), .slice B g.length d]] W fun e w' => ∃ XA xc YA yc, e = .returned (.tuple #[.agg #[.int .u32 (p : Int), .slice XA q.length xc], .agg #[.int .u32 (p : Int), .slice YA r.length yc], .int .i64 0]) ∧ (DvB w p (.slice A f.length c) (.slice B g.length d) b QA RA q r qc rc w' ∧ KL .u32 w' w'.heap.size XA q ∧ KL .u32 w' w'.heap.size YA r)) := Lib.hid fun b QA RA qc rc W hW => by
    rw [← e_q, ← e_r] at hW ⊢
    refine (rdivmod_any p A B f g c d W (kA.up hW.1.2.2.2) (kB.up hW.1.2.2.2) hp hpr P_f P_g ng (by omega) (by omega)).mono ?_
    rintro e w' ⟨XA, xc, YA, yc, h1, h2, h3, _, _, h6⟩
    exact ⟨XA, xc, YA, yc, h1, hW.up h6, h2.kl, h3.kl⟩
  have HQ1 : Hid (∀ (W w3 w4 : World) (QA RA XA YA : Option Addr) (qc rc xc yc : Nat), DvC w p (.slice A f.length c) (.slice B g.length d) w3.heap.size QA RA q r qc rc w4.heap.size XA YA xc yc W → Calls Tryd.prog 16 #[.agg #[.int .u32 (p : Int), .slice QA q.length qc], .agg #[.int .u32 (p : Int), .slice XA q.length xc]] W fun e w' => e = .returned (.bool true) ∧ DvC w p (.slice A f.length c) (.slice B g.length d) w3.heap.size QA RA q r qc rc w4.heap.size XA YA xc yc w') := Lib.hid fun W w3 w4 QA RA XA YA qc rc xc yc hW =>
    (psame (W0 := W) hp P_q P_q (by omega) (by omega) rfl W QA XA qc xc (Below.refl _ _) hW.1.2.2.1 hW.2.2.2.1).mono fun e w' ⟨h1, _, h3⟩ => ⟨h1, hW.up h3⟩
  have HQ2 : Hid (∀ (W w3 w4 : World) (QA RA XA YA : Option Addr) (qc rc xc yc : Nat), DvC w p (.slice A f.length c) (.slice B g.length d) w3.heap.size QA RA q r qc rc w4.heap.size XA YA xc yc W → Calls Tryd.prog 16 #[.agg #[.int .u32 (p : Int), .slice RA r.length rc], .agg #[.int .u32 (p : Int), .slice YA r.length yc]] W fun e w' => e = .returned (.bool true) ∧ DvC w p (.slice A f.length c) (.slice B g.length d) w3.heap.size QA RA q r qc rc w4.heap.size XA YA xc yc w') := Lib.hid fun W w3 w4 QA RA XA YA qc rc xc yc hW =>
    (psame (W0 := W) hp P_r P_r (by omega) (by omega) rfl W RA YA rc yc (Below.refl _ _) hW.1.2.2.2 hW.2.2.2.2).mono fun e w' ⟨h1, _, h3⟩ => ⟨h1, hW.up h3⟩
  have KA := Lib.hid kA
  have KB := Lib.hid kB
  clear e_q e_r hsp P_q P_r hrl hqr L_q L_r e_m P_m L_m hf hgg P_f P_g kA kB hg lf lg hpr ng
  go_enter Tryd.func6, Tryd.ntmps6
  go_wp2_with (first
    | (go_at_call 12; (with_reducible refine (HAWK.out _ (by go_grown)).mono ?_); rintro e w1 ⟨rfl, hb1⟩; have HW1 := Lib.hid (HB0.out.up (hb1.mono (by simp))); obtain ⟨⟨f0, f1⟩, ⟨g0, g1⟩, hz1, hbw1⟩ := HW1.out; clear hb1)
    | (go_at_call 17; (with_reducible refine (HP1.out _ hbw1).mono ?_); rintro e w2 ⟨rfl, hb2⟩; have HW2 := Lib.hid (HW1.out.up (hb2.mono hz1)); clear f0 f1 g0 g1; obtain ⟨⟨f0, f1⟩, ⟨g0, g1⟩, hz2, hbw2⟩ := HW2.out; clear hb2)
    | (go_at_call 46; (with_reducible refine (HD1.out _ HW2.out).mono ?_); rintro e w3 ⟨QA, qc, RA, rc, rfl, hst, hcq, hcr⟩; clear f0 f1 g0 g1; have f0 := two_newc hst.1.1.1; have f1 := two_newc hst.1.1.2; have g0 := two_newc hst.1.2.1.1; have g1 := two_newc hst.1.2.1.2; have HS3 := Lib.hid hst; have cap_q := hcq; have cap_r := hcr; clear hst hcq hcr)
    | (go_at_call 47; (with_reducible refine (HD2.out w3.heap.size QA RA qc rc _ ?_).mono ?_); exact ⟨HS3.out.1.up' (by go_grown), ⟨⟨⟨(by go_cell), (by go_cell)⟩, (by (simp only [World.size_alloc]; omega))⟩, ⟨⟨(by go_cell), (by go_cell)⟩, (by (simp only [World.size_alloc]; omega))⟩⟩, HS3.out.2.1.up (by go_grown), HS3.out.2.2.up (by go_grown)⟩; rintro e w4 ⟨XA, xc, YA, yc, rfl, hst⟩; clear f0 f1 g0 g1; have q0 := two_newc hst.1.2.1.1.1.1; have q1 := two_newc hst.1.2.1.1.1.2; have HS4 := Lib.hid hst; clear hst)
    | (go_at_call 16; (with_reducible refine (HQ1.out _ w3 w4 QA RA XA YA qc rc xc yc ?_).mono ?_); exact ⟨HS4.out.1.up (by go_grown), (HS4.out.1.up (by go_grown)).1, ⟨⟨⟨(by go_cell), (by go_cell)⟩, (by (simp only [World.size_alloc]; omega))⟩, ⟨⟨(by go_cell), (by go_cell)⟩, (by (simp only [World.size_alloc]; omega))⟩⟩, HS4.out.2.1.up (by go_grown), HS4.out.2.2.up (by go_grown)⟩; rintro e w5 ⟨rfl, hst⟩; clear q0 q1; have r0 := hst.1.2.1.2.1.1; have r1 := hst.1.2.1.2.1.2; have s0 := hst.2.2.1.2.1.1; have s1 := hst.2.2.1.2.1.2; have HS5 := Lib.hid hst; clear hst)
    | (go_at_call 16; (with_reducible refine (HQ2.out _ w3 w4 QA RA XA YA qc rc xc yc HS5.out).mono ?_); rintro e w6 ⟨rfl, hst⟩; clear r0 r1 s0 s1; have HS6 := Lib.hid hst; clear hst))
  have hB2 := HS6.out.1.1
  have HSX : Hid (∀ W : World, Below w6.heap.size w6 W → ((W.cell? ⟨w.heap.size, 0, none⟩ = some (.int .u32 (p : Int)) ∧ W.cell? ⟨w.heap.size, 1, none⟩ = some (.slice A f.length c)) ∧ (W.cell? ⟨w.heap.size + 1, 0, none⟩ = some (.int .u32 (p : Int)) ∧ W.cell? ⟨w.heap.size + 1, 1, none⟩ = some (.slice B g.length d))) ∧ (W.cell? ⟨w3.heap.size, 0, none⟩ = some (.int .u32 (p : Int)) ∧ W.cell? ⟨w3.heap.size, 1, none⟩ = some (.slice QA q.length qc)) ∧ (W.cell? ⟨w3.heap.size + 1, 0, none⟩ = some (.int .u32 (p : Int)) ∧ W.cell? ⟨w3.heap.size + 1, 1, none⟩ = some (.slice RA r.length rc))) := Lib.hid fun W hb => by
    have h3 := HS6.out.1.up hb
    exact ⟨⟨h3.1.1, h3.1.2.1⟩, h3.2.1.1.1, h3.2.1.2.1⟩
  have KL_f := Lib.hid (kl_at KA.out hB2.2.2.2)
  have KL_g := Lib.hid (kl_at KB.out hB2.2.2.2)
  have KL_q : Hid (∀ W : World, Below w6.heap.size w6 W → KL .u32 W W.heap.size QA q) := Lib.hid fun W hb => HS6.out.1.2.2.1.up hb
  have KL_r : Hid (∀ W : World, Below w6.heap.size w6 W → KL .u32 W W.heap.size RA r) := Lib.hid fun W hb => HS6.out.1.2.2.2.up hb
  have HBW := Lib.hid hB2.2.2.2
  have HD0 : Hid (Below w6.heap.size w6 w6.drew) := Lib.hid (Below.refl _ _).drew
  have G_m := H_m w6
  have G_f := H_f w6
  have G_s := H_s w6
  have G_dr := H_dr w6
  have G_dg := H_dg w6
  clear H_m H_f H_s H_dr H_dg hB2 HB0 HW1 HW2 HS3 HS4 HS5 HS6 HAWK HP1 HD1 HD2 HQ1 HQ2 hbw1 hbw2 hz1 hz2
  refine wp_region_noPanic ?_
  refine wp_region_tail (fun (_ : Array Bool) (W : World) => ((W.cell? ⟨w.heap.size, 0, none⟩ = some (.int .u32 (p : Int)) ∧ W.cell? ⟨w.heap.size, 1, none⟩ = some (.slice A f.length c)) ∧ (W.cell? ⟨w.heap.size + 1, 0, none⟩ = some (.int .u32 (p : Int)) ∧ W.cell? ⟨w.heap.size + 1, 1, none⟩ = some (.slice B g.length d))) ∧ (W.cell? ⟨w3.heap.size, 0, none⟩ = some (.int .u32 (p : Int)) ∧ W.cell? ⟨w3.heap.size, 1, none⟩ = some (.slice QA q.length qc)) ∧ (W.cell? ⟨w3.heap.size + 1, 0, none⟩ = some (.int .u32 (p : Int)) ∧ W.cell? ⟨w3.heap.size + 1, 1, none⟩ = some (.slice RA r.length rc))) (by kernel_rfl) (HSX.out _ HD0.out) (fun hT => ?_)
  refine wpAnyT_take _ [] (i := 0) (oi := _) (v := ?_) (fun _ _ => Iff.rfl) (fun _ _ _ h => h) rfl (by kernel_rfl) (by kernel_rfl) (by kernel_rfl) (by kernel_rfl) (by kernel_rfl) (fun _ _ _ h => h) (by assumption) (Or.inl ⟨by kernel_rfl, ?_⟩) (fun hT => ?_)
  rotate_left 1
  · intro w hSw
    (try dsimp only at hSw)
    first | (go_simp; done) | (go_simp; with_reducible rfl)
  (try simp only [Act.put, List.getElem_toArray, List.getElem_cons_zero, List.setIfInBounds_toArray, List.set_cons_zero, List.set_cons_succ])
  refine wpAnyT_take _ [] (i := 1) (oi := _) (v := ?_) (fun _ _ => Iff.rfl) (fun _ _ _ h => h) rfl (by kernel_rfl) (by kernel_rfl) (by kernel_rfl) (by kernel_rfl) (by kernel_rfl) (fun _ _ _ h => h) (by assumption) (Or.inl ⟨by kernel_rfl, ?_⟩) (fun hT => ?_)
  rotate_left 1
  · intro w hSw
    (try dsimp only at hSw)
    first | (go_simp; done) | (go_simp; with_reducible rfl)
  (try simp only [Act.put, List.getElem_toArray, List.getElem_cons_succ, List.getElem_cons_zero, List.setIfInBounds_toArray, List.set_cons_zero, List.set_cons_succ])
  refine wpAnyT_take _ [] (i := 2) (oi := _) (v := ?_) (fun _ _ => Iff.rfl) (fun _ _ _ h => h) rfl (by kernel_rfl) (by kernel_rfl) (by kernel_rfl) (by kernel_rfl) (by kernel_rfl) (fun _ _ _ h => h) (by assumption) (Or.inl ⟨by kernel_rfl, ?_⟩) (fun hT => ?_)
  rotate_left 1
  · intro w hSw
    (try dsimp only at hSw)
    first | (go_simp; done) | (go_simp; with_reducible rfl)
  (try simp only [Act.put, List.getElem_toArray, List.getElem_cons_succ, List.getElem_cons_zero, List.setIfInBounds_toArray, List.set_cons_zero, List.set_cons_succ])
  refine wpAnyT_take _ [] (i := 3) (oi := _) (v := ?_) (fun _ _ => Iff.rfl) (fun _ _ _ h => h) rfl (by kernel_rfl) (by kernel_rfl) (by kernel_rfl) (by kernel_rfl) (by kernel_rfl) (fun _ _ _ h => h) (by assumption) (Or.inl ⟨by kernel_rfl, ?_⟩) (fun hT => ?_)
  rotate_left 1
  · intro w hSw
    (try dsimp only at hSw)
    first | (go_simp; done) | (go_simp; with_reducible rfl)
  (try simp only [Act.put, List.getElem_toArray, List.getElem_cons_succ, List.getElem_cons_zero, List.setIfInBounds_toArray, List.set_cons_zero, List.set_cons_succ])
  refine wpAnyT_take _ [] (i := 4) (oi := _) (v := ?_) (fun _ _ => Iff.rfl) (fun _ _ _ h => h) rfl (by kernel_rfl) (by kernel_rfl) (by kernel_rfl) (by kernel_rfl) (by kernel_rfl) (fun _ _ _ h => h) (by assumption) (Or.inl ⟨by kernel_rfl, ?_⟩) (fun hT => ?_)
  rotate_left 1
  · intro w hSw
    (try dsimp only at hSw)
    first | (go_simp; done) | (go_simp; with_reducible rfl)
  (try simp only [Act.put, List.getElem_toArray, List.getElem_cons_succ, List.getElem_cons_zero, List.setIfInBounds_toArray, List.set_cons_zero, List.set_cons_succ])
  refine wpAnyT_take _ [] (i := 6) (oi := _) (v := ?_) (fun _ _ => Iff.rfl) (fun _ _ _ h => h) rfl (by kernel_rfl) (by kernel_rfl) (by kernel_rfl) (by kernel_rfl) (by kernel_rfl) (fun _ _ _ h => h) (by assumption) (Or.inl ⟨by kernel_rfl, ?_⟩) (fun hT => ?_)
  rotate_left 1
  · intro w hSw
    (try dsimp only at hSw)
    first | (go_simp; done) | (go_simp; with_reducible rfl)
  (try simp only [Act.put, List.getElem_toArray, List.getElem_cons_succ, List.getElem_cons_zero, List.setIfInBounds_toArray, List.set_cons_zero, List.set_cons_succ])
  refine wpAnyT_take _ [] (i := 8) (oi := _) (v := ?_) (fun _ _ => Iff.rfl) (fun _ _ _ h => h) rfl (by kernel_rfl) (by kernel_rfl) (by kernel_rfl) (by kernel_rfl) (by kernel_rfl) (fun _ _ _ h => h) (by assumption) (Or.inl ⟨by kernel_rfl, ?_⟩) (fun hT => ?_)
  rotate_left 1
  · intro w hSw
    (try dsimp only at hSw)
    first | (go_simp; done) | (go_simp; with_reducible rfl)
  (try simp only [Act.put, List.getElem_toArray, List.getElem_cons_succ, List.getElem_cons_zero, List.setIfInBounds_toArray, List.set_cons_zero, List.set_cons_succ])
  refine wpAnyT_one (i := 5) (by kernel_rfl) (oi := _) rfl (fun K hK => ?_)
  (try dsimp only [List.getElem_toArray, List.getElem_cons_succ, List.getElem_cons_zero])
  go_simp
  go_at_call 34
  (with_reducible refine (G_m.out _ _ _ _ _ HD0.out (KL_q.out _ HD0.out) cap_q (KL_g.out _ HD0.out)).mono ?_)
  rintro e w7 ⟨A_m, c_m, rfl, h_m, hc_m, hb7, hs7⟩
  go_wp2_with (fail)
  refine hK.out _ _ (HSX.out _ hb7) (fun hT => ?_)
  clear hK K
  (try simp only [Act.put, List.getElem_toArray, List.getElem_cons_succ, List.getElem_cons_zero, List.setIfInBounds_toArray, List.set_cons_zero, List.set_cons_succ])
  refine wpAnyT_one (i := 7) (by kernel_rfl) (oi := _) rfl (fun K hK => ?_)
  (try dsimp only [List.getElem_toArray, List.getElem_cons_succ, List.getElem_cons_zero])
  go_simp
  go_at_call 30
  (with_reducible refine (G_f.out _ _ _ _ _ hb7 h_m.kl hc_m (KL_r.out _ hb7)).mono ?_)
  rintro e w8 ⟨A_fr, c_fr, rfl, h_fr, hc_fr, hb8, hs8⟩
  have h_m := h_m.below hs8
  go_wp2_with (fail)
  refine hK.out _ _ (HSX.out _ hb8) (fun hT => ?_)
  clear hK K
  (try simp only [Act.put, List.getElem_toArray, List.getElem_cons_succ, List.getElem_cons_zero, List.setIfInBounds_toArray, List.set_cons_zero, List.set_cons_succ])
  refine wpAnyT_one (i := 9) (by kernel_rfl) (oi := _) rfl (fun K hK => ?_)
  (try dsimp only [List.getElem_toArray, List.getElem_cons_succ, List.getElem_cons_zero])
  go_simp
  go_at_call 16
  (with_reducible refine (G_s.out _ _ _ _ _ hb8 h_fr.kl (KL_f.out _ hb8)).mono ?_)
  rintro e w9 ⟨rfl, hb9, hs9⟩
  have h_m := h_m.below hs9
  have h_fr := h_fr.below hs9
  go_wp2_with (fail)
  refine hK.out _ _ (HSX.out _ hb9) (fun hT => ?_)
  clear hK K
  (try simp only [Act.put, List.getElem_toArray, List.getElem_cons_succ, List.getElem_cons_zero, List.setIfInBounds_toArray, List.set_cons_zero, List.set_cons_succ])
  refine wpAnyT_take _ [] (i := 10) (oi := _) (v := ?_) (fun _ _ => Iff.rfl) (fun _ _ _ h => h) rfl (by kernel_rfl) (by kernel_rfl) (by kernel_rfl) (by kernel_rfl) (by kernel_rfl) (fun _ _ _ h => h) (by assumption) (Or.inl ⟨by kernel_rfl, ?_⟩) (fun hT => ?_)
  rotate_left 1
  · intro w hSw
    (try dsimp only at hSw)
    first | (go_simp; done) | (go_simp; with_reducible rfl)
  (try simp only [Act.put, List.getElem_toArray, List.getElem_cons_succ, List.getElem_cons_zero, List.setIfInBounds_toArray, List.set_cons_zero, List.set_cons_succ])
  refine wpAnyT_take _ [] (i := 11) (oi := _) (v := ?_) (fun _ _ => Iff.rfl) (fun _ _ _ h => h) rfl (by kernel_rfl) (by kernel_rfl) (by kernel_rfl) (by kernel_rfl) (by kernel_rfl) (fun _ _ _ h => h) (by assumption) (Or.inl ⟨by kernel_rfl, ?_⟩) (fun hT => ?_)
  rotate_left 1
  · intro w hSw
    (try dsimp only at hSw)
    first | (go_simp; done) | (go_simp; with_reducible rfl)
  (try simp only [Act.put, List.getElem_toArray, List.getElem_cons_succ, List.getElem_cons_zero, List.setIfInBounds_toArray, List.set_cons_zero, List.set_cons_succ])
  refine wpAnyT_take _ [] (i := 13) (oi := _) (v := ?_) (fun _ _ => Iff.rfl) (fun _ _ _ h => h) rfl (by kernel_rfl) (by kernel_rfl) (by kernel_rfl) (by kernel_rfl) (by kernel_rfl) (fun _ _ _ h => h) (by assumption) (Or.inl ⟨by kernel_rfl, ?_⟩) (fun hT => ?_)
  rotate_left 1
  · intro w hSw
    (try dsimp only at hSw)
    first | (go_simp; done) | (go_simp; with_reducible rfl)
  (try simp only [Act.put, List.getElem_toArray, List.getElem_cons_succ, List.getElem_cons_zero, List.setIfInBounds_toArray, List.set_cons_zero, List.set_cons_succ])
  refine wpAnyT_one (i := 12) (by kernel_rfl) (oi := _) rfl (fun K hK => ?_)
  (try dsimp only [List.getElem_toArray, List.getElem_cons_succ, List.getElem_cons_zero])
  go_simp
  go_at_call 18
  (with_reducible refine (G_dr.out _ _ _ hb9).mono ?_)
  rintro e w10 ⟨rfl, hb10, hs10⟩
  have h_m := h_m.below hs10
  have h_fr := h_fr.below hs10
  go_wp2_with (fail)
  refine hK.out _ _ (HSX.out _ hb10) (fun hT => ?_)
  clear hK K
  (try simp only [Act.put, List.getElem_toArray, List.getElem_cons_succ, List.getElem_cons_zero, List.setIfInBounds_toArray, List.set_cons_zero, List.set_cons_succ])
  refine wpAnyT_one (i := 14) (by kernel_rfl) (oi := _) rfl (fun K hK => ?_)
  (try dsimp only [List.getElem_toArray, List.getElem_cons_succ, List.getElem_cons_zero])
  go_simp
  go_at_call 18
  (with_reducible refine (G_dg.out _ _ _ hb10).mono ?_)
  rintro e w11 ⟨rfl, hb11, hs11⟩
  have h_m := h_m.below hs11
  have h_fr := h_fr.below hs11
  go_wp2_with (fail)
  refine hK.out _ _ (HSX.out _ hb11) (fun hT => ?_)
  clear hK K
  (try simp only [Act.put, List.getElem_toArray, List.getElem_cons_succ, List.getElem_cons_zero, List.setIfInBounds_toArray, List.set_cons_zero, List.set_cons_succ])
  refine wpAnyT_take _ [] (i := 15) (oi := _) (v := ?_) (fun _ _ => Iff.rfl) (fun _ _ _ h => h) rfl (by kernel_rfl) (by kernel_rfl) (by kernel_rfl) (by kernel_rfl) (by kernel_rfl) (fun _ _ _ h => h) (by assumption) (Or.inl ⟨by kernel_rfl, ?_⟩) (fun hT => ?_)
  rotate_left 1
  · intro w hSw
    (try dsimp only at hSw)
    first | (go_simp; done) | (go_simp; with_reducible rfl)
  (try simp only [Act.put, List.getElem_toArray, List.getElem_cons_succ, List.getElem_cons_zero, List.setIfInBounds_toArray, List.set_cons_zero, List.set_cons_succ])
  refine wpAnyT_take _ [] (i := 16) (oi := _) (v := ?_) (fun _ _ => Iff.rfl) (fun _ _ _ h => h) rfl (by kernel_rfl) (by kernel_rfl) (by kernel_rfl) (by kernel_rfl) (by kernel_rfl) (fun _ _ _ h => h) (by assumption) (Or.inl ⟨by kernel_rfl, ?_⟩) (fun hT => ?_)
  rotate_left 1
  · intro w hSw
    (try dsimp only at hSw)
    first | (go_simp; done) | (go_simp; with_reducible rfl)
  (try simp only [Act.put, List.getElem_toArray, List.getElem_cons_succ, List.getElem_cons_zero, List.setIfInBounds_toArray, List.set_cons_zero, List.set_cons_succ])
  refine wpAnyT_take _ [] (i := 17) (oi := _) (v := ?_) (fun _ _ => Iff.rfl) (fun _ _ _ h => h) rfl (by kernel_rfl) (by kernel_rfl) (by kernel_rfl) (by kernel_rfl) (by kernel_rfl) (fun _ _ _ h => h) (by assumption) (Or.inl ⟨by kernel_rfl, ?_⟩) (fun hT => ?_)
  rotate_left 1
  · intro w hSw
    (try dsimp only at hSw)
    first | (go_simp; done) | (go_simp; with_reducible rfl)
  (try simp only [Act.put, List.getElem_toArray, List.getElem_cons_succ, List.getElem_cons_zero, List.setIfInBounds_toArray, List.set_cons_zero, List.set_cons_succ])
  refine wpAnyT_take _ [] (i := 18) (oi := _) (v := ?_) (fun _ _ => Iff.rfl) (fun _ _ _ h => h) rfl (by kernel_rfl) (by kernel_rfl) (by kernel_rfl) (by kernel_rfl) (by kernel_rfl) (fun _ _ _ h => h) (by assumption) (Or.inl ⟨by kernel_rfl, ?_⟩) (fun hT => ?_)
  rotate_left 1
  · intro w hSw
    (try dsimp only at hSw)
    first | (go_simp; done) | (go_simp; with_reducible rfl)
  (try simp only [Act.put, List.getElem_toArray, List.getElem_cons_succ, List.getElem_cons_zero, List.setIfInBounds_toArray, List.set_cons_zero, List.set_cons_succ])
  refine wpAnyT_done (by kernel_rfl) ?_ _
  refine NoPanic.normal ?_
  go_wp2
  go_ret
  exact ⟨ret_bool (by first | rfl | (simp; done) | (have h9 := HRL.out; simp; omega)), below_chain HBW.out hb11⟩
end Go.Proofs.YtlndchmpnnlacaaDoor
