/- The walk of PpolyRing. -/
import Derived.Test.YtlndchmpnnlacaaDoorPm
namespace Go.Proofs.YtlndchmpnnlacaaDoor
open Go.RowKit

set_option maxRecDepth 100000 in
set_option maxHeartbeats 16000000 in
theorem law_ring_yes (p a : Nat) (A B D : Option Addr) (f g h : List Int) (c d e : Nat) (w : World) (hg : TabG w) (kA : KL .u32 w w.heap.size A f) (kB : KL .u32 w w.heap.size B g) (kD : KL .u32 w w.heap.size D h)
    (hf : MayP p f) (hgg : MayP p g) (hh : MayP p h) (lf : f.length ≤ 9) (lg : g.length ≤ 9) (lh : h.length ≤ 9) (cap_f : f.length ≤ c) (cap_g : g.length ≤ d) (_cap_h : h.length ≤ e) (_ha : a ≤ 4294967295) :
    Calls Tryd.prog 10 #[.agg #[.int .u32 (p : Int), .slice A f.length c], .agg #[.int .u32 (p : Int), .slice B g.length d], .agg #[.int .u32 (p : Int), .slice D h.length e], .int .u32 (a : Int)] w fun e w' => e = .returned (.bool true) ∧ Below w.heap.size w w' := by
  have hp : p ≤ 2147483647 := hf.1.2.1
  have hp0 : 0 < p := by have := hf.1.1; omega
  have P_f := hf.2
  have P_g := hgg.2
  have P_h := hh.2
  obtain ⟨fg, e_fg⟩ : ∃ x, mulP p f g = x := ⟨_, rfl⟩
  have P_fg : Pol p fg := by rw [← e_fg]; exact mulP_pol hp0
  have L_fg : fg.length ≤ 18 := by rw [← e_fg]; have := mulP_le p f g; omega
  obtain ⟨m1, e_m1⟩ : ∃ x, mulP p fg h = x := ⟨_, rfl⟩
  have P_m1 : Pol p m1 := by rw [← e_m1]; exact mulP_pol hp0
  have L_m1 : m1.length ≤ 27 := by rw [← e_m1]; have := mulP_le p fg h; omega
  obtain ⟨m2, e_m2⟩ : ∃ x, mulP p g h = x := ⟨_, rfl⟩
  have P_m2 : Pol p m2 := by rw [← e_m2]; exact mulP_pol hp0
  have L_m2 : m2.length ≤ 18 := by rw [← e_m2]; have := mulP_le p g h; omega
  obtain ⟨m3, e_m3⟩ : ∃ x, mulP p f m2 = x := ⟨_, rfl⟩
  have P_m3 : Pol p m3 := by rw [← e_m3]; exact mulP_pol hp0
  have L_m3 : m3.length ≤ 27 := by rw [← e_m3]; have := mulP_le p f m2; omega
  obtain ⟨m4, e_m4⟩ : ∃ x, mulP p g f = x := ⟨_, rfl⟩
  have P_m4 : Pol p m4 := by rw [← e_m4]; exact mulP_pol hp0
  have L_m4 : m4.length ≤ 18 := by rw [← e_m4]; have := mulP_le p g f; omega
  obtain ⟨s1, e_s1⟩ : ∃ x, addP p g h = x := ⟨_, rfl⟩
  have P_s1 : Pol p s1 := by rw [← e_s1]; exact addP_pol hp0
  have L_s1 : s1.length ≤ 18 := by rw [← e_s1]; have := addP_le p g h; omega
  obtain ⟨m5, e_m5⟩ : ∃ x, mulP p f s1 = x := ⟨_, rfl⟩
  have P_m5 : Pol p m5 := by rw [← e_m5]; exact mulP_pol hp0
  have L_m5 : m5.length ≤ 27 := by rw [← e_m5]; have := mulP_le p f s1; omega
  obtain ⟨m6, e_m6⟩ : ∃ x, mulP p f h = x := ⟨_, rfl⟩
  have P_m6 : Pol p m6 := by rw [← e_m6]; exact mulP_pol hp0
  have L_m6 : m6.length ≤ 18 := by rw [← e_m6]; have := mulP_le p f h; omega
  obtain ⟨s2, e_s2⟩ : ∃ x, addP p fg m6 = x := ⟨_, rfl⟩
  have P_s2 : Pol p s2 := by rw [← e_s2]; exact addP_pol hp0
  have L_s2 : s2.length ≤ 36 := by rw [← e_s2]; have := addP_le p fg m6; omega
  obtain ⟨s3, e_s3⟩ : ∃ x, addP p f g = x := ⟨_, rfl⟩
  have P_s3 : Pol p s3 := by rw [← e_s3]; exact addP_pol hp0
  have L_s3 : s3.length ≤ 18 := by rw [← e_s3]; have := addP_le p f g; omega
  obtain ⟨d1, e_d1⟩ : ∃ x, derP p fg = x := ⟨_, rfl⟩
  have P_d1 : Pol p d1 := by rw [← e_d1]; exact derP_pol hp0
  have L_d1 : d1.length ≤ 18 := by rw [← e_d1]; have := derP_le p fg; omega
  obtain ⟨d2, e_d2⟩ : ∃ x, derP p f = x := ⟨_, rfl⟩
  have P_d2 : Pol p d2 := by rw [← e_d2]; exact derP_pol hp0
  have L_d2 : d2.length ≤ 9 := by rw [← e_d2]; have := derP_le p f; omega
  obtain ⟨m7, e_m7⟩ : ∃ x, mulP p d2 g = x := ⟨_, rfl⟩
  have P_m7 : Pol p m7 := by rw [← e_m7]; exact mulP_pol hp0
  have L_m7 : m7.length ≤ 18 := by rw [← e_m7]; have := mulP_le p d2 g; omega
  obtain ⟨d3, e_d3⟩ : ∃ x, derP p g = x := ⟨_, rfl⟩
  have P_d3 : Pol p d3 := by rw [← e_d3]; exact derP_pol hp0
  have L_d3 : d3.length ≤ 9 := by rw [← e_d3]; have := derP_le p g; omega
  obtain ⟨m8, e_m8⟩ : ∃ x, mulP p f d3 = x := ⟨_, rfl⟩
  have P_m8 : Pol p m8 := by rw [← e_m8]; exact mulP_pol hp0
  have L_m8 : m8.length ≤ 18 := by rw [← e_m8]; have := mulP_le p f d3; omega
  obtain ⟨s4, e_s4⟩ : ∃ x, addP p m7 m8 = x := ⟨_, rfl⟩
  have P_s4 : Pol p s4 := by rw [← e_s4]; exact addP_pol hp0
  have L_s4 : s4.length ≤ 36 := by rw [← e_s4]; have := addP_le p m7 m8; omega
  have q1 : m1 = m3 := by rw [← e_m1, ← e_m3, ← e_fg, ← e_m2]; exact mulP_assoc hp0
  have q2 : fg = m4 := by rw [← e_fg, ← e_m4]; exact mulP_comm _ _
  have q3 : m5 = s2 := by rw [← e_m5, ← e_s2, ← e_s1, ← e_fg, ← e_m6]; exact mulP_add hp0
  have q4 : d1 = s4 := by rw [← e_d1, ← e_s4, ← e_m7, ← e_m8, ← e_d2, ← e_d3, ← e_fg]; exact derP_mul hp0
  obtain ⟨k, hk⟩ : ∃ k, a % p = k := ⟨_, rfl⟩
  have hkp : k < p := by rw [← hk]; exact Nat.mod_lt _ hp0
  obtain ⟨hk1, hk2⟩ := mod_parts hk
  have val : ∀ x : List Int, ∃ v : Nat, valZ x k % p = (v : Int) ∧ v < p := fun x => ⟨(valZ x k % p).toNat, by have := Int.emod_nonneg (valZ x k) (show (p : Int) ≠ 0 by omega); omega, by have := Int.emod_nonneg (valZ x k) (show (p : Int) ≠ 0 by omega); have := Int.emod_lt_of_pos (valZ x k) (show (0 : Int) < p by omega); omega⟩
  obtain ⟨va, hva, hvap⟩ := val f
  obtain ⟨vb, hvb, hvbp⟩ := val g
  obtain ⟨v1, hv1, hv1p⟩ := val fg
  obtain ⟨v2, hv2, hv2p⟩ := val s3
  have hr1 := mul_room (a := va) (b := vb) (by omega) (by omega)
  obtain ⟨m, hm⟩ : ∃ m, va * vb = m := ⟨_, rfl⟩
  have hm' : (va : Int) * (vb : Int) = (m : Int) := by rw [← hm, Int.natCast_mul]
  rw [hm] at hr1
  have y1 : m % p = v1 := by
    have h1 := valZ_mul (p := p) (xs := f) (ys := g) (k : Int)
    rw [e_fg] at h1
    have h2 : (m : Int) % p = v1 := by
      rw [← hv1, ← hm', ← hva, ← hvb, ← Int.mul_emod]
      exact (Int.emod_eq_emod_iff_emod_sub_eq_zero.2 (Int.emod_eq_zero_of_dvd h1)).symm
    omega
  obtain ⟨yt1, yt2⟩ := mod_parts y1
  obtain ⟨n, hn⟩ : ∃ n, va + vb = n := ⟨_, rfl⟩
  have hn' : (va : Int) + (vb : Int) = (n : Int) := by omega
  have z1 : n % p = v2 := by
    have h1 := valZ_add (p := p) (xs := f) (ys := g) (k : Int)
    rw [e_s3] at h1
    have h2 : (n : Int) % p = v2 := by
      rw [← hv2, ← hn', ← hva, ← hvb, ← Int.add_emod]
      exact (Int.emod_eq_emod_iff_emod_sub_eq_zero.2 (Int.emod_eq_zero_of_dvd h1)).symm
    omega
  obtain ⟨zt1, zt2⟩ := mod_parts z1
  have HB0 : Hid (Box3 w p (.slice A f.length c) (.slice B g.length d) (.slice D h.length e) (((w.alloc (.cells #[.int .u32 (p : Int), .slice A f.length c] 25)).alloc (.cells #[.int .u32 (p : Int), .slice B g.length d] 25)).alloc (.cells #[.int .u32 (p : Int), .slice D h.length e] 25))) := Lib.hid ⟨⟨⟨by go_cell, by go_cell⟩, ⟨by go_cell, by go_cell⟩, ⟨by go_cell, by go_cell⟩⟩, by simp, by go_grown⟩
  have HAWK : Hid (∀ W : World, Below w.heap.size w W → Calls Tryd.prog 12 #[] W fun e w' => e = .returned (.bool true) ∧ Below W.heap.size W w') := Lib.hid fun W hW => awake_any W (hg.up hW)
  have HP1 : Hid (∀ W : World, Below w.heap.size w W → Calls Tryd.prog 17 #[.agg #[.int .u32 (p : Int), .slice A f.length c], .agg #[.int .u32 (p : Int), .slice B g.length d], .int .i64 8] W fun e w' => e = .returned (.bool true) ∧ Below W.heap.size W w') := Lib.hid fun W hW =>
    (pair_any p p 8 A B f g c d W (kA.up hW) (kB.up hW) (by omega) (by omega) (P_f.1.w (by omega)) (P_g.1.w (by omega)) (by omega) (by omega) (by omega)).mono fun e w' ⟨⟨b, h1, h2⟩, h3⟩ => ⟨by rw [h1, h2.2 ⟨rfl, ⟨lf, hf⟩, lg, hgg⟩], h3⟩
  have HP2 : Hid (∀ W : World, Below w.heap.size w W → Calls Tryd.prog 17 #[.agg #[.int .u32 (p : Int), .slice A f.length c], .agg #[.int .u32 (p : Int), .slice D h.length e], .int .i64 8] W fun e w' => e = .returned (.bool true) ∧ Below W.heap.size W w') := Lib.hid fun W hW =>
    (pair_any p p 8 A D f h c e W (kA.up hW) (kD.up hW) (by omega) (by omega) (P_f.1.w (by omega)) (P_h.1.w (by omega)) (by omega) (by omega) (by omega)).mono fun e w' ⟨⟨b, h1, h2⟩, h3⟩ => ⟨by rw [h1, h2.2 ⟨rfl, ⟨lf, hf⟩, lh, hh⟩], h3⟩
  have HM0 : Hid (∀ W : World, Below w.heap.size w W → Calls Tryd.prog 34 #[.agg #[.int .u32 (p : Int), .slice A f.length c], .agg #[.int .u32 (p : Int), .slice B g.length d]] W fun e w' => MadeP p fg W e w') := Lib.hid fun W hW => by
    rw [← e_fg]; exact mul_any p A B f g c d W (kA.up hW) (kB.up hW) hp hp0 P_f.1 P_g.1 (by omega) (by omega) cap_f
  have H_m1 := fun W0 : World => Lib.hid (pmul (W0 := W0) hp hp0 P_fg P_h (by omega) (by omega) e_m1)
  have H_m2 := fun W0 : World => Lib.hid (pmul (W0 := W0) hp hp0 P_g P_h (by omega) (by omega) e_m2)
  have H_m3 := fun W0 : World => Lib.hid (pmul (W0 := W0) hp hp0 P_f P_m2 (by omega) (by omega) e_m3)
  have H_m4 := fun W0 : World => Lib.hid (pmul (W0 := W0) hp hp0 P_g P_f (by omega) (by omega) e_m4)
  have H_s1 := fun W0 : World => Lib.hid (padd (W0 := W0) hp hp0 P_g P_h (by omega) (by omega) e_s1)
  have H_m5 := fun W0 : World => Lib.hid (pmul (W0 := W0) hp hp0 P_f P_s1 (by omega) (by omega) e_m5)
  have H_m6 := fun W0 : World => Lib.hid (pmul (W0 := W0) hp hp0 P_f P_h (by omega) (by omega) e_m6)
  have H_s2 := fun W0 : World => Lib.hid (padd (W0 := W0) hp hp0 P_fg P_m6 (by omega) (by omega) e_s2)
  have H_s3 := fun W0 : World => Lib.hid (padd (W0 := W0) hp hp0 P_f P_g (by omega) (by omega) e_s3)
  have H_d1 := fun W0 : World => Lib.hid (pdiff (W0 := W0) hp hp0 P_fg (by omega) e_d1)
  have H_d2 := fun W0 : World => Lib.hid (pdiff (W0 := W0) hp hp0 P_f (by omega) e_d2)
  have H_m7 := fun W0 : World => Lib.hid (pmul (W0 := W0) hp hp0 P_d2 P_g (by omega) (by omega) e_m7)
  have H_d3 := fun W0 : World => Lib.hid (pdiff (W0 := W0) hp hp0 P_g (by omega) e_d3)
  have H_m8 := fun W0 : World => Lib.hid (pmul (W0 := W0) hp hp0 P_f P_d3 (by omega) (by omega) e_m8)
  have H_s4 := fun W0 : World => Lib.hid (padd (W0 := W0) hp hp0 P_m7 P_m8 (by omega) (by omega) e_s4)
  have H_q1 := fun W0 : World => Lib.hid (psame (W0 := W0) hp P_m1 P_m3 (by omega) (by omega) q1)
  have H_q2 := fun W0 : World => Lib.hid (psame (W0 := W0) hp P_fg P_m4 (by omega) (by omega) q2)
  have H_q3 := fun W0 : World => Lib.hid (psame (W0 := W0) hp P_m5 P_s2 (by omega) (by omega) q3)
  have H_q4 := fun W0 : World => Lib.hid (psame (W0 := W0) hp P_d1 P_s4 (by omega) (by omega) q4)
  have H_va := fun W0 : World => Lib.hid (pvalue (W0 := W0) hp hp0 P_f (by omega) hkp hva)
  have H_vb := fun W0 : World => Lib.hid (pvalue (W0 := W0) hp hp0 P_g (by omega) hkp hvb)
  have H_v1 := fun W0 : World => Lib.hid (pvalue (W0 := W0) hp hp0 P_fg (by omega) hkp hv1)
  have H_v2 := fun W0 : World => Lib.hid (pvalue (W0 := W0) hp hp0 P_s3 (by omega) hkp hv2)
  have x1 : IntKind.u64.wrap (va : Int) = (va : Int) := by rw [IntKind.wrap_u64]; omega
  have x2 : IntKind.u64.wrap (vb : Int) = (vb : Int) := by rw [IntKind.wrap_u64]; omega
  have x3 : IntKind.u64.wrap (v1 : Int) = (v1 : Int) := by rw [IntKind.wrap_u64]; omega
  have x4 : IntKind.u64.wrap (v2 : Int) = (v2 : Int) := by rw [IntKind.wrap_u64]; omega
  have x5 : IntKind.u64.wrap (m : Int) = (m : Int) := by rw [IntKind.wrap_u64]; omega
  have x6 : IntKind.u64.wrap (n : Int) = (n : Int) := by rw [IntKind.wrap_u64]; omega
  have x7 : IntKind.u64.wrap (p : Int) = (p : Int) := by rw [IntKind.wrap_u64]; omega
  have x8 : ((v1 : Int) != (v1 : Int)) = false := by simp
  have x9 : ((v2 : Int) != (v2 : Int)) = false := by simp
  have hp1 : ((p : Int) == 0) = false := by rw [beq_eq_false_iff_ne]; omega
  have hp2 : p ≠ 0 := by omega
  have KA := Lib.hid kA
  have KB := Lib.hid kB
  have KD := Lib.hid kD
  clear e_fg P_fg L_fg e_m1 P_m1 L_m1 e_m2 P_m2 L_m2 e_m3 P_m3 L_m3 e_m4 P_m4 L_m4 e_s1 P_s1 L_s1 e_m5 P_m5 L_m5 e_m6 P_m6 L_m6 e_s2 P_s2 L_s2 e_s3 P_s3 L_s3 e_d1 P_d1 L_d1 e_d2 P_d2 L_d2 e_m7 P_m7 L_m7 e_d3 P_d3 L_d3 e_m8 P_m8 L_m8 e_s4 P_s4 L_s4 q1 q2 q3 q4 hk val hva hvb hv1 hv2 hm y1 hn z1 hf hgg hh P_f P_g P_h kA kB kD hg lf lg lh
  go_enter Tryd.func10, Tryd.ntmps10
  go_wp2_with (first
    | (go_at_call 12; (with_reducible refine (HAWK.out _ (by go_grown)).mono ?_); rintro e w1 ⟨rfl, hb1⟩; have HW1 := Lib.hid (HB0.out.up (hb1.mono (by simp))); obtain ⟨⟨⟨f0, f1⟩, ⟨g0, g1⟩, ⟨h0, h1⟩⟩, hz1, hbw1⟩ := HW1.out; clear hb1)
    | (go_at_call 17; (with_reducible refine (HP1.out _ hbw1).mono ?_); rintro e w2 ⟨rfl, hb2⟩; have HW2 := Lib.hid (HW1.out.up (hb2.mono hz1)); clear f0 f1 g0 g1 h0 h1; obtain ⟨⟨⟨f0, f1⟩, ⟨g0, g1⟩, ⟨h0, h1⟩⟩, hz2, hbw2⟩ := HW2.out; clear hb2)
    | (go_at_call 17; (with_reducible refine (HP2.out _ hbw2).mono ?_); rintro e w3 ⟨rfl, hb3⟩; have HW3 := Lib.hid (HW2.out.up (hb3.mono hz2)); clear f0 f1 g0 g1 h0 h1; obtain ⟨⟨⟨f0, f1⟩, ⟨g0, g1⟩, ⟨h0, h1⟩⟩, hz3, hbw3⟩ := HW3.out; clear hb3)
    | (go_at_call 34; (with_reducible refine (HM0.out _ hbw3).mono ?_); rintro e w4 ⟨FA, fc, rfl, hF, cap_fg, hb4⟩; have HW4 := Lib.hid (HW3.out.up (hb4.mono hz3)); have HF := Lib.hid hF.kl; clear hF hb4))
  have HE : Hid (∃ W0 : World, w4.alloc (.cells #[.int .u32 (p : Int), .slice FA fg.length fc] 25) = W0 ∧ Box3 w p (.slice A f.length c) (.slice B g.length d) (.slice D h.length e) W0 ∧ (W0.cell? ⟨w4.heap.size, 0, none⟩ = some (.int .u32 (p : Int)) ∧ W0.cell? ⟨w4.heap.size, 1, none⟩ = some (.slice FA fg.length fc)) ∧ KL .u32 W0 W0.heap.size FA fg ∧ w4.heap.size < W0.heap.size) := Lib.hid
    ⟨_, rfl, HW4.out.up ((Below.refl _ _).alloc HW4.out.2.1 _), ⟨by go_cell, by go_cell⟩, HF.out.up ((Below.refl _ _).alloc (Nat.le_refl _) _), by simp⟩
  obtain ⟨W0, hW0, hB3, ⟨c0, c1⟩, hKF, hs4⟩ := HE.out
  rw [hW0]
  have KL_f := Lib.hid (kl_at KA.out hB3.2.2)
  have KL_g := Lib.hid (kl_at KB.out hB3.2.2)
  have KL_h := Lib.hid (kl_at KD.out hB3.2.2)
  have KL_fg : Hid (∀ W : World, Below W0.heap.size W0 W → KL .u32 W W.heap.size FA fg) := Lib.hid fun W hb => hKF.up hb
  have HSX : Hid (∀ W : World, Below W0.heap.size W0 W → ((W.cell? ⟨w.heap.size, 0, none⟩ = some (.int .u32 (p : Int)) ∧ W.cell? ⟨w.heap.size, 1, none⟩ = some (.slice A f.length c)) ∧ (W.cell? ⟨w.heap.size + 1, 0, none⟩ = some (.int .u32 (p : Int)) ∧ W.cell? ⟨w.heap.size + 1, 1, none⟩ = some (.slice B g.length d)) ∧ (W.cell? ⟨w.heap.size + 1 + 1, 0, none⟩ = some (.int .u32 (p : Int)) ∧ W.cell? ⟨w.heap.size + 1 + 1, 1, none⟩ = some (.slice D h.length e))) ∧ (W.cell? ⟨w4.heap.size, 0, none⟩ = some (.int .u32 (p : Int)) ∧ W.cell? ⟨w4.heap.size, 1, none⟩ = some (.slice FA fg.length fc))) := Lib.hid fun W hb => by
    have h3 := hB3.up (hb.mono hB3.2.1)
    exact ⟨h3.1, (hb.cell (p := ⟨w4.heap.size, 0, none⟩) hs4).trans c0, (hb.cell (p := ⟨w4.heap.size, 1, none⟩) hs4).trans c1⟩
  have HBW := Lib.hid hB3.2.2
  have HD0 : Hid (Below W0.heap.size W0 W0.drew) := Lib.hid (Below.refl _ _).drew
  clear hW0 HE hB3 c0 c1 hKF hs4 HW1 HW2 HW3 HW4 f0 f1 g0 g1 h0 h1 hbw1 hbw2 hbw3 hz1 hz2 hz3 HAWK HP1 HP2 HM0 HF HB0
  have G_m1 := H_m1 W0
  clear H_m1
  have G_m2 := H_m2 W0
  clear H_m2
  have G_m3 := H_m3 W0
  clear H_m3
  have G_m4 := H_m4 W0
  clear H_m4
  have G_s1 := H_s1 W0
  clear H_s1
  have G_m5 := H_m5 W0
  clear H_m5
  have G_m6 := H_m6 W0
  clear H_m6
  have G_s2 := H_s2 W0
  clear H_s2
  have G_s3 := H_s3 W0
  clear H_s3
  have G_d1 := H_d1 W0
  clear H_d1
  have G_d2 := H_d2 W0
  clear H_d2
  have G_m7 := H_m7 W0
  clear H_m7
  have G_d3 := H_d3 W0
  clear H_d3
  have G_m8 := H_m8 W0
  clear H_m8
  have G_s4 := H_s4 W0
  clear H_s4
  have G_q1 := H_q1 W0
  clear H_q1
  have G_q2 := H_q2 W0
  clear H_q2
  have G_q3 := H_q3 W0
  clear H_q3
  have G_q4 := H_q4 W0
  clear H_q4
  have G_va := H_va W0
  clear H_va
  have G_vb := H_vb W0
  clear H_vb
  have G_v1 := H_v1 W0
  clear H_v1
  have G_v2 := H_v2 W0
  clear H_v2
  refine wp_region_noPanic ?_
  refine wp_region_tail (fun (_ : Array Bool) (W : World) => ((W.cell? ⟨w.heap.size, 0, none⟩ = some (.int .u32 (p : Int)) ∧ W.cell? ⟨w.heap.size, 1, none⟩ = some (.slice A f.length c)) ∧ (W.cell? ⟨w.heap.size + 1, 0, none⟩ = some (.int .u32 (p : Int)) ∧ W.cell? ⟨w.heap.size + 1, 1, none⟩ = some (.slice B g.length d)) ∧ (W.cell? ⟨w.heap.size + 1 + 1, 0, none⟩ = some (.int .u32 (p : Int)) ∧ W.cell? ⟨w.heap.size + 1 + 1, 1, none⟩ = some (.slice D h.length e))) ∧ (W.cell? ⟨w4.heap.size, 0, none⟩ = some (.int .u32 (p : Int)) ∧ W.cell? ⟨w4.heap.size, 1, none⟩ = some (.slice FA fg.length fc))) (by kernel_rfl) (HSX.out _ HD0.out) (fun hT => ?_)
  refine wpAnyT_take _ [] (i := 0) (oi := _) (v := ?_) (fun _ _ => Iff.rfl) (fun _ _ _ h => h) rfl (by kernel_rfl) (by kernel_rfl) (by kernel_rfl) (by kernel_rfl) (by kernel_rfl) (fun _ _ _ h => h) (by assumption) (Or.inl ⟨by kernel_rfl, ?_⟩) (fun hT => ?_)
  rotate_left 1
  · intro w hSw
    (try dsimp only at hSw)
    first | (go_simp; done) | (go_simp; with_reducible rfl)
  (try simp only [Act.put, List.getElem_toArray, List.getElem_cons_zero, List.setIfInBounds_toArray, List.set_cons_zero, List.set_cons_succ])
  refine wpAnyT_take _ [] (i := 1) (oi := _) (v := ?_) (fun _ _ => Iff.rfl) (fun _ _ _ h => h) rfl (by kernel_rfl) (by kernel_rfl) (by kernel_rfl) (by kernel_rfl) (by kernel_rfl) (fun _ _ _ h => h) (by assumption) (Or.inl ⟨by kernel_rfl, ?_⟩) (fun hT => ?_)
  rotate_left 1
  · intro w hSw
    (try dsimp only at hSw)
    first | (go_simp; done) | (go_simp; with_reducible rfl)
  (try simp only [Act.put, List.getElem_toArray, List.getElem_cons_succ, List.getElem_cons_zero, List.setIfInBounds_toArray, List.set_cons_zero, List.set_cons_succ])
  refine wpAnyT_take _ [] (i := 3) (oi := _) (v := ?_) (fun _ _ => Iff.rfl) (fun _ _ _ h => h) rfl (by kernel_rfl) (by kernel_rfl) (by kernel_rfl) (by kernel_rfl) (by kernel_rfl) (fun _ _ _ h => h) (by assumption) (Or.inl ⟨by kernel_rfl, ?_⟩) (fun hT => ?_)
  rotate_left 1
  · intro w hSw
    (try dsimp only at hSw)
    first | (go_simp; done) | (go_simp; with_reducible rfl)
  (try simp only [Act.put, List.getElem_toArray, List.getElem_cons_succ, List.getElem_cons_zero, List.setIfInBounds_toArray, List.set_cons_zero, List.set_cons_succ])
  refine wpAnyT_take _ [] (i := 4) (oi := _) (v := ?_) (fun _ _ => Iff.rfl) (fun _ _ _ h => h) rfl (by kernel_rfl) (by kernel_rfl) (by kernel_rfl) (by kernel_rfl) (by kernel_rfl) (fun _ _ _ h => h) (by assumption) (Or.inl ⟨by kernel_rfl, ?_⟩) (fun hT => ?_)
  rotate_left 1
  · intro w hSw
    (try dsimp only at hSw)
    first | (go_simp; done) | (go_simp; with_reducible rfl)
  (try simp only [Act.put, List.getElem_toArray, List.getElem_cons_succ, List.getElem_cons_zero, List.setIfInBounds_toArray, List.set_cons_zero, List.set_cons_succ])
  refine wpAnyT_take _ [] (i := 5) (oi := _) (v := ?_) (fun _ _ => Iff.rfl) (fun _ _ _ h => h) rfl (by kernel_rfl) (by kernel_rfl) (by kernel_rfl) (by kernel_rfl) (by kernel_rfl) (fun _ _ _ h => h) (by assumption) (Or.inl ⟨by kernel_rfl, ?_⟩) (fun hT => ?_)
  rotate_left 1
  · intro w hSw
    (try dsimp only at hSw)
    first | (go_simp; done) | (go_simp; with_reducible rfl)
  (try simp only [Act.put, List.getElem_toArray, List.getElem_cons_succ, List.getElem_cons_zero, List.setIfInBounds_toArray, List.set_cons_zero, List.set_cons_succ])
  refine wpAnyT_one (i := 2) (by kernel_rfl) (oi := _) rfl (fun K hK => ?_)
  (try dsimp only [List.getElem_toArray, List.getElem_cons_succ, List.getElem_cons_zero])
  go_simp
  go_at_call 34
  (with_reducible refine (G_m1.out _ _ _ _ _ HD0.out (KL_fg.out _ HD0.out) cap_fg (KL_h.out _ HD0.out)).mono ?_)
  rintro e w5 ⟨A_m1, c_m1, rfl, h_m1, hc_m1, hb5, hs5⟩
  go_wp2_with (fail)
  refine hK.out _ _ (HSX.out _ hb5) (fun hT => ?_)
  clear hK K
  (try simp only [Act.put, List.getElem_toArray, List.getElem_cons_succ, List.getElem_cons_zero, List.setIfInBounds_toArray, List.set_cons_zero, List.set_cons_succ])
  refine wpAnyT_one (i := 6) (by kernel_rfl) (oi := _) rfl (fun K hK => ?_)
  (try dsimp only [List.getElem_toArray, List.getElem_cons_succ, List.getElem_cons_zero])
  go_simp
  go_at_call 34
  (with_reducible refine (G_m2.out _ _ _ _ _ hb5 (KL_g.out _ hb5) cap_g (KL_h.out _ hb5)).mono ?_)
  rintro e w6 ⟨A_m2, c_m2, rfl, h_m2, hc_m2, hb6, hs6⟩
  have h_m1 := h_m1.below hs6
  go_wp2_with (fail)
  refine hK.out _ _ (HSX.out _ hb6) (fun hT => ?_)
  clear hK K
  (try simp only [Act.put, List.getElem_toArray, List.getElem_cons_succ, List.getElem_cons_zero, List.setIfInBounds_toArray, List.set_cons_zero, List.set_cons_succ])
  refine wpAnyT_one (i := 7) (by kernel_rfl) (oi := _) rfl (fun K hK => ?_)
  (try dsimp only [List.getElem_toArray, List.getElem_cons_succ, List.getElem_cons_zero])
  go_simp
  go_at_call 34
  (with_reducible refine (G_m3.out _ _ _ _ _ hb6 (KL_f.out _ hb6) cap_f h_m2.kl).mono ?_)
  rintro e w7 ⟨A_m3, c_m3, rfl, h_m3, hc_m3, hb7, hs7⟩
  have h_m1 := h_m1.below hs7
  have h_m2 := h_m2.below hs7
  go_wp2_with (fail)
  refine hK.out _ _ (HSX.out _ hb7) (fun hT => ?_)
  clear hK K
  (try simp only [Act.put, List.getElem_toArray, List.getElem_cons_succ, List.getElem_cons_zero, List.setIfInBounds_toArray, List.set_cons_zero, List.set_cons_succ])
  refine wpAnyT_one (i := 8) (by kernel_rfl) (oi := _) rfl (fun K hK => ?_)
  (try dsimp only [List.getElem_toArray, List.getElem_cons_succ, List.getElem_cons_zero])
  go_simp
  go_at_call 16
  (with_reducible refine (G_q1.out _ _ _ _ _ hb7 h_m1.kl h_m3.kl).mono ?_)
  rintro e w8 ⟨rfl, hb8, hs8⟩
  have h_m1 := h_m1.below hs8
  have h_m2 := h_m2.below hs8
  have h_m3 := h_m3.below hs8
  go_wp2_with (fail)
  refine hK.out _ _ (HSX.out _ hb8) (fun hT => ?_)
  clear hK K
  (try simp only [Act.put, List.getElem_toArray, List.getElem_cons_succ, List.getElem_cons_zero, List.setIfInBounds_toArray, List.set_cons_zero, List.set_cons_succ])
  refine wpAnyT_take _ [] (i := 9) (oi := _) (v := ?_) (fun _ _ => Iff.rfl) (fun _ _ _ h => h) rfl (by kernel_rfl) (by kernel_rfl) (by kernel_rfl) (by kernel_rfl) (by kernel_rfl) (fun _ _ _ h => h) (by assumption) (Or.inl ⟨by kernel_rfl, ?_⟩) (fun hT => ?_)
  rotate_left 1
  · intro w hSw
    (try dsimp only at hSw)
    first | (go_simp; done) | (go_simp; with_reducible rfl)
  (try simp only [Act.put, List.getElem_toArray, List.getElem_cons_succ, List.getElem_cons_zero, List.setIfInBounds_toArray, List.set_cons_zero, List.set_cons_succ])
  refine wpAnyT_take _ [] (i := 10) (oi := _) (v := ?_) (fun _ _ => Iff.rfl) (fun _ _ _ h => h) rfl (by kernel_rfl) (by kernel_rfl) (by kernel_rfl) (by kernel_rfl) (by kernel_rfl) (fun _ _ _ h => h) (by assumption) (Or.inl ⟨by kernel_rfl, ?_⟩) (fun hT => ?_)
  rotate_left 1
  · intro w hSw
    (try dsimp only at hSw)
    first | (go_simp; done) | (go_simp; with_reducible rfl)
  (try simp only [Act.put, List.getElem_toArray, List.getElem_cons_succ, List.getElem_cons_zero, List.setIfInBounds_toArray, List.set_cons_zero, List.set_cons_succ])
  refine wpAnyT_take _ [] (i := 11) (oi := _) (v := ?_) (fun _ _ => Iff.rfl) (fun _ _ _ h => h) rfl (by kernel_rfl) (by kernel_rfl) (by kernel_rfl) (by kernel_rfl) (by kernel_rfl) (fun _ _ _ h => h) (by assumption) (Or.inl ⟨by kernel_rfl, ?_⟩) (fun hT => ?_)
  rotate_left 1
  · intro w hSw
    (try dsimp only at hSw)
    first | (go_simp; done) | (go_simp; with_reducible rfl)
  (try simp only [Act.put, List.getElem_toArray, List.getElem_cons_succ, List.getElem_cons_zero, List.setIfInBounds_toArray, List.set_cons_zero, List.set_cons_succ])
  refine wpAnyT_take _ [] (i := 12) (oi := _) (v := ?_) (fun _ _ => Iff.rfl) (fun _ _ _ h => h) rfl (by kernel_rfl) (by kernel_rfl) (by kernel_rfl) (by kernel_rfl) (by kernel_rfl) (fun _ _ _ h => h) (by assumption) (Or.inl ⟨by kernel_rfl, ?_⟩) (fun hT => ?_)
  rotate_left 1
  · intro w hSw
    (try dsimp only at hSw)
    first | (go_simp; done) | (go_simp; with_reducible rfl)
  (try simp only [Act.put, List.getElem_toArray, List.getElem_cons_succ, List.getElem_cons_zero, List.setIfInBounds_toArray, List.set_cons_zero, List.set_cons_succ])
  refine wpAnyT_take _ [] (i := 13) (oi := _) (v := ?_) (fun _ _ => Iff.rfl) (fun _ _ _ h => h) rfl (by kernel_rfl) (by kernel_rfl) (by kernel_rfl) (by kernel_rfl) (by kernel_rfl) (fun _ _ _ h => h) (by assumption) (Or.inl ⟨by kernel_rfl, ?_⟩) (fun hT => ?_)
  rotate_left 1
  · intro w hSw
    (try dsimp only at hSw)
    first | (go_simp; done) | (go_simp; with_reducible rfl)
  (try simp only [Act.put, List.getElem_toArray, List.getElem_cons_succ, List.getElem_cons_zero, List.setIfInBounds_toArray, List.set_cons_zero, List.set_cons_succ])
  refine wpAnyT_one (i := 14) (by kernel_rfl) (oi := _) rfl (fun K hK => ?_)
  (try dsimp only [List.getElem_toArray, List.getElem_cons_succ, List.getElem_cons_zero])
  go_simp
  go_at_call 34
  (with_reducible refine (G_m4.out _ _ _ _ _ hb8 (KL_g.out _ hb8) cap_g (KL_f.out _ hb8)).mono ?_)
  rintro e w9 ⟨A_m4, c_m4, rfl, h_m4, hc_m4, hb9, hs9⟩
  go_wp2_with (fail)
  refine hK.out _ _ (HSX.out _ hb9) (fun hT => ?_)
  clear hK K
  (try simp only [Act.put, List.getElem_toArray, List.getElem_cons_succ, List.getElem_cons_zero, List.setIfInBounds_toArray, List.set_cons_zero, List.set_cons_succ])
  refine wpAnyT_one (i := 15) (by kernel_rfl) (oi := _) rfl (fun K hK => ?_)
  (try dsimp only [List.getElem_toArray, List.getElem_cons_succ, List.getElem_cons_zero])
  go_simp
  go_at_call 16
  (with_reducible refine (G_q2.out _ _ _ _ _ hb9 (KL_fg.out _ hb9) h_m4.kl).mono ?_)
  rintro e w10 ⟨rfl, hb10, hs10⟩
  have h_m4 := h_m4.below hs10
  go_wp2_with (fail)
  refine hK.out _ _ (HSX.out _ hb10) (fun hT => ?_)
  clear hK K
  (try simp only [Act.put, List.getElem_toArray, List.getElem_cons_succ, List.getElem_cons_zero, List.setIfInBounds_toArray, List.set_cons_zero, List.set_cons_succ])
  refine wpAnyT_take _ [] (i := 16) (oi := _) (v := ?_) (fun _ _ => Iff.rfl) (fun _ _ _ h => h) rfl (by kernel_rfl) (by kernel_rfl) (by kernel_rfl) (by kernel_rfl) (by kernel_rfl) (fun _ _ _ h => h) (by assumption) (Or.inl ⟨by kernel_rfl, ?_⟩) (fun hT => ?_)
  rotate_left 1
  · intro w hSw
    (try dsimp only at hSw)
    first | (go_simp; done) | (go_simp; with_reducible rfl)
  (try simp only [Act.put, List.getElem_toArray, List.getElem_cons_succ, List.getElem_cons_zero, List.setIfInBounds_toArray, List.set_cons_zero, List.set_cons_succ])
  refine wpAnyT_take _ [] (i := 17) (oi := _) (v := ?_) (fun _ _ => Iff.rfl) (fun _ _ _ h => h) rfl (by kernel_rfl) (by kernel_rfl) (by kernel_rfl) (by kernel_rfl) (by kernel_rfl) (fun _ _ _ h => h) (by assumption) (Or.inl ⟨by kernel_rfl, ?_⟩) (fun hT => ?_)
  rotate_left 1
  · intro w hSw
    (try dsimp only at hSw)
    first | (go_simp; done) | (go_simp; with_reducible rfl)
  (try simp only [Act.put, List.getElem_toArray, List.getElem_cons_succ, List.getElem_cons_zero, List.setIfInBounds_toArray, List.set_cons_zero, List.set_cons_succ])
  refine wpAnyT_take _ [] (i := 18) (oi := _) (v := ?_) (fun _ _ => Iff.rfl) (fun _ _ _ h => h) rfl (by kernel_rfl) (by kernel_rfl) (by kernel_rfl) (by kernel_rfl) (by kernel_rfl) (fun _ _ _ h => h) (by assumption) (Or.inl ⟨by kernel_rfl, ?_⟩) (fun hT => ?_)
  rotate_left 1
  · intro w hSw
    (try dsimp only at hSw)
    first | (go_simp; done) | (go_simp; with_reducible rfl)
  (try simp only [Act.put, List.getElem_toArray, List.getElem_cons_succ, List.getElem_cons_zero, List.setIfInBounds_toArray, List.set_cons_zero, List.set_cons_succ])
  refine wpAnyT_take _ [] (i := 19) (oi := _) (v := ?_) (fun _ _ => Iff.rfl) (fun _ _ _ h => h) rfl (by kernel_rfl) (by kernel_rfl) (by kernel_rfl) (by kernel_rfl) (by kernel_rfl) (fun _ _ _ h => h) (by assumption) (Or.inl ⟨by kernel_rfl, ?_⟩) (fun hT => ?_)
  rotate_left 1
  · intro w hSw
    (try dsimp only at hSw)
    first | (go_simp; done) | (go_simp; with_reducible rfl)
  (try simp only [Act.put, List.getElem_toArray, List.getElem_cons_succ, List.getElem_cons_zero, List.setIfInBounds_toArray, List.set_cons_zero, List.set_cons_succ])
  refine wpAnyT_take _ [] (i := 20) (oi := _) (v := ?_) (fun _ _ => Iff.rfl) (fun _ _ _ h => h) rfl (by kernel_rfl) (by kernel_rfl) (by kernel_rfl) (by kernel_rfl) (by kernel_rfl) (fun _ _ _ h => h) (by assumption) (Or.inl ⟨by kernel_rfl, ?_⟩) (fun hT => ?_)
  rotate_left 1
  · intro w hSw
    (try dsimp only at hSw)
    first | (go_simp; done) | (go_simp; with_reducible rfl)
  (try simp only [Act.put, List.getElem_toArray, List.getElem_cons_succ, List.getElem_cons_zero, List.setIfInBounds_toArray, List.set_cons_zero, List.set_cons_succ])
  refine wpAnyT_take _ [] (i := 21) (oi := _) (v := ?_) (fun _ _ => Iff.rfl) (fun _ _ _ h => h) rfl (by kernel_rfl) (by kernel_rfl) (by kernel_rfl) (by kernel_rfl) (by kernel_rfl) (fun _ _ _ h => h) (by assumption) (Or.inl ⟨by kernel_rfl, ?_⟩) (fun hT => ?_)
  rotate_left 1
  · intro w hSw
    (try dsimp only at hSw)
    first | (go_simp; done) | (go_simp; with_reducible rfl)
  (try simp only [Act.put, List.getElem_toArray, List.getElem_cons_succ, List.getElem_cons_zero, List.setIfInBounds_toArray, List.set_cons_zero, List.set_cons_succ])
  refine wpAnyT_take _ [] (i := 24) (oi := _) (v := ?_) (fun _ _ => Iff.rfl) (fun _ _ _ h => h) rfl (by kernel_rfl) (by kernel_rfl) (by kernel_rfl) (by kernel_rfl) (by kernel_rfl) (fun _ _ _ h => h) (by assumption) (Or.inl ⟨by kernel_rfl, ?_⟩) (fun hT => ?_)
  rotate_left 1
  · intro w hSw
    (try dsimp only at hSw)
    first | (go_simp; done) | (go_simp; with_reducible rfl)
  (try simp only [Act.put, List.getElem_toArray, List.getElem_cons_succ, List.getElem_cons_zero, List.setIfInBounds_toArray, List.set_cons_zero, List.set_cons_succ])
  refine wpAnyT_take _ [] (i := 25) (oi := _) (v := ?_) (fun _ _ => Iff.rfl) (fun _ _ _ h => h) rfl (by kernel_rfl) (by kernel_rfl) (by kernel_rfl) (by kernel_rfl) (by kernel_rfl) (fun _ _ _ h => h) (by assumption) (Or.inl ⟨by kernel_rfl, ?_⟩) (fun hT => ?_)
  rotate_left 1
  · intro w hSw
    (try dsimp only at hSw)
    first | (go_simp; done) | (go_simp; with_reducible rfl)
  (try simp only [Act.put, List.getElem_toArray, List.getElem_cons_succ, List.getElem_cons_zero, List.setIfInBounds_toArray, List.set_cons_zero, List.set_cons_succ])
  refine wpAnyT_take _ [] (i := 26) (oi := _) (v := ?_) (fun _ _ => Iff.rfl) (fun _ _ _ h => h) rfl (by kernel_rfl) (by kernel_rfl) (by kernel_rfl) (by kernel_rfl) (by kernel_rfl) (fun _ _ _ h => h) (by assumption) (Or.inl ⟨by kernel_rfl, ?_⟩) (fun hT => ?_)
  rotate_left 1
  · intro w hSw
    (try dsimp only at hSw)
    first | (go_simp; done) | (go_simp; with_reducible rfl)
  (try simp only [Act.put, List.getElem_toArray, List.getElem_cons_succ, List.getElem_cons_zero, List.setIfInBounds_toArray, List.set_cons_zero, List.set_cons_succ])
  refine wpAnyT_one (i := 22) (by kernel_rfl) (oi := _) rfl (fun K hK => ?_)
  (try dsimp only [List.getElem_toArray, List.getElem_cons_succ, List.getElem_cons_zero])
  go_simp
  go_at_call 30
  (with_reducible refine (G_s1.out _ _ _ _ _ hb10 (KL_g.out _ hb10) cap_g (KL_h.out _ hb10)).mono ?_)
  rintro e w11 ⟨A_s1, c_s1, rfl, h_s1, hc_s1, hb11, hs11⟩
  go_wp2_with (fail)
  refine hK.out _ _ (HSX.out _ hb11) (fun hT => ?_)
  clear hK K
  (try simp only [Act.put, List.getElem_toArray, List.getElem_cons_succ, List.getElem_cons_zero, List.setIfInBounds_toArray, List.set_cons_zero, List.set_cons_succ])
  refine wpAnyT_one (i := 23) (by kernel_rfl) (oi := _) rfl (fun K hK => ?_)
  (try dsimp only [List.getElem_toArray, List.getElem_cons_succ, List.getElem_cons_zero])
  go_simp
  go_at_call 34
  (with_reducible refine (G_m5.out _ _ _ _ _ hb11 (KL_f.out _ hb11) cap_f h_s1.kl).mono ?_)
  rintro e w12 ⟨A_m5, c_m5, rfl, h_m5, hc_m5, hb12, hs12⟩
  have h_s1 := h_s1.below hs12
  go_wp2_with (fail)
  refine hK.out _ _ (HSX.out _ hb12) (fun hT => ?_)
  clear hK K
  (try simp only [Act.put, List.getElem_toArray, List.getElem_cons_succ, List.getElem_cons_zero, List.setIfInBounds_toArray, List.set_cons_zero, List.set_cons_succ])
  refine wpAnyT_one (i := 27) (by kernel_rfl) (oi := _) rfl (fun K hK => ?_)
  (try dsimp only [List.getElem_toArray, List.getElem_cons_succ, List.getElem_cons_zero])
  go_simp
  go_at_call 34
  (with_reducible refine (G_m6.out _ _ _ _ _ hb12 (KL_f.out _ hb12) cap_f (KL_h.out _ hb12)).mono ?_)
  rintro e w13 ⟨A_m6, c_m6, rfl, h_m6, hc_m6, hb13, hs13⟩
  have h_m5 := h_m5.below hs13
  go_wp2_with (fail)
  refine hK.out _ _ (HSX.out _ hb13) (fun hT => ?_)
  clear hK K
  (try simp only [Act.put, List.getElem_toArray, List.getElem_cons_succ, List.getElem_cons_zero, List.setIfInBounds_toArray, List.set_cons_zero, List.set_cons_succ])
  refine wpAnyT_one (i := 28) (by kernel_rfl) (oi := _) rfl (fun K hK => ?_)
  (try dsimp only [List.getElem_toArray, List.getElem_cons_succ, List.getElem_cons_zero])
  go_simp
  go_at_call 30
  (with_reducible refine (G_s2.out _ _ _ _ _ hb13 (KL_fg.out _ hb13) cap_fg h_m6.kl).mono ?_)
  rintro e w14 ⟨A_s2, c_s2, rfl, h_s2, hc_s2, hb14, hs14⟩
  have h_m5 := h_m5.below hs14
  have h_m6 := h_m6.below hs14
  go_wp2_with (fail)
  refine hK.out _ _ (HSX.out _ hb14) (fun hT => ?_)
  clear hK K
  (try simp only [Act.put, List.getElem_toArray, List.getElem_cons_succ, List.getElem_cons_zero, List.setIfInBounds_toArray, List.set_cons_zero, List.set_cons_succ])
  refine wpAnyT_one (i := 29) (by kernel_rfl) (oi := _) rfl (fun K hK => ?_)
  (try dsimp only [List.getElem_toArray, List.getElem_cons_succ, List.getElem_cons_zero])
  go_simp
  go_at_call 16
  (with_reducible refine (G_q3.out _ _ _ _ _ hb14 h_m5.kl h_s2.kl).mono ?_)
  rintro e w15 ⟨rfl, hb15, hs15⟩
  have h_m5 := h_m5.below hs15
  have h_m6 := h_m6.below hs15
  have h_s2 := h_s2.below hs15
  go_wp2_with (fail)
  refine hK.out _ _ (HSX.out _ hb15) (fun hT => ?_)
  clear hK K
  (try simp only [Act.put, List.getElem_toArray, List.getElem_cons_succ, List.getElem_cons_zero, List.setIfInBounds_toArray, List.set_cons_zero, List.set_cons_succ])
  refine wpAnyT_take _ [] (i := 30) (oi := _) (v := ?_) (fun _ _ => Iff.rfl) (fun _ _ _ h => h) rfl (by kernel_rfl) (by kernel_rfl) (by kernel_rfl) (by kernel_rfl) (by kernel_rfl) (fun _ _ _ h => h) (by assumption) (Or.inl ⟨by kernel_rfl, ?_⟩) (fun hT => ?_)
  rotate_left 1
  · intro w hSw
    (try dsimp only at hSw)
    first | (go_simp; done) | (go_simp; with_reducible rfl)
  (try simp only [Act.put, List.getElem_toArray, List.getElem_cons_succ, List.getElem_cons_zero, List.setIfInBounds_toArray, List.set_cons_zero, List.set_cons_succ])
  refine wpAnyT_take _ [] (i := 31) (oi := _) (v := ?_) (fun _ _ => Iff.rfl) (fun _ _ _ h => h) rfl (by kernel_rfl) (by kernel_rfl) (by kernel_rfl) (by kernel_rfl) (by kernel_rfl) (fun _ _ _ h => h) (by assumption) (Or.inl ⟨by kernel_rfl, ?_⟩) (fun hT => ?_)
  rotate_left 1
  · intro w hSw
    (try dsimp only at hSw)
    first | (go_simp; done) | (go_simp; with_reducible rfl)
  (try simp only [Act.put, List.getElem_toArray, List.getElem_cons_succ, List.getElem_cons_zero, List.setIfInBounds_toArray, List.set_cons_zero, List.set_cons_succ])
  refine wpAnyT_done (by kernel_rfl) ?_ _
  refine NoPanic.normal ?_
  have HD1 := Lib.hid (hb15.drew)
  go_wp2
  refine wp_region_noPanic ?_
  refine wp_region_tail (fun (_ : Array Bool) (W : World) => ((W.cell? ⟨w.heap.size, 0, none⟩ = some (.int .u32 (p : Int)) ∧ W.cell? ⟨w.heap.size, 1, none⟩ = some (.slice A f.length c)) ∧ (W.cell? ⟨w.heap.size + 1, 0, none⟩ = some (.int .u32 (p : Int)) ∧ W.cell? ⟨w.heap.size + 1, 1, none⟩ = some (.slice B g.length d)) ∧ (W.cell? ⟨w.heap.size + 1 + 1, 0, none⟩ = some (.int .u32 (p : Int)) ∧ W.cell? ⟨w.heap.size + 1 + 1, 1, none⟩ = some (.slice D h.length e))) ∧ (W.cell? ⟨w4.heap.size, 0, none⟩ = some (.int .u32 (p : Int)) ∧ W.cell? ⟨w4.heap.size, 1, none⟩ = some (.slice FA fg.length fc))) (by kernel_rfl) (HSX.out _ HD1.out) (fun hT => ?_)
  refine wpAnyT_take _ [] (i := 0) (oi := _) (v := ?_) (fun _ _ => Iff.rfl) (fun _ _ _ h => h) rfl (by kernel_rfl) (by kernel_rfl) (by kernel_rfl) (by kernel_rfl) (by kernel_rfl) (fun _ _ _ h => h) (by assumption) (Or.inl ⟨by kernel_rfl, ?_⟩) (fun hT => ?_)
  rotate_left 1
  · intro w hSw
    (try dsimp only at hSw)
    first | (go_simp; done) | (go_simp; with_reducible rfl)
  (try simp only [Act.put, List.getElem_toArray, List.getElem_cons_zero, List.setIfInBounds_toArray, List.set_cons_zero, List.set_cons_succ])
  refine wpAnyT_take _ [] (i := 1) (oi := _) (v := ?_) (fun _ _ => Iff.rfl) (fun _ _ _ h => h) rfl (by kernel_rfl) (by kernel_rfl) (by kernel_rfl) (by kernel_rfl) (by kernel_rfl) (fun _ _ _ h => h) (by assumption) (Or.inl ⟨by kernel_rfl, ?_⟩) (fun hT => ?_)
  rotate_left 1
  · intro w hSw
    (try dsimp only at hSw)
    first | (go_simp; done) | (go_simp; with_reducible rfl)
  (try simp only [Act.put, List.getElem_toArray, List.getElem_cons_succ, List.getElem_cons_zero, List.setIfInBounds_toArray, List.set_cons_zero, List.set_cons_succ])
  refine wpAnyT_take _ [] (i := 4) (oi := _) (v := ?_) (fun _ _ => Iff.rfl) (fun _ _ _ h => h) rfl (by kernel_rfl) (by kernel_rfl) (by kernel_rfl) (by kernel_rfl) (by kernel_rfl) (fun _ _ _ h => h) (by assumption) (Or.inl ⟨by kernel_rfl, ?_⟩) (fun hT => ?_)
  rotate_left 1
  · intro w hSw
    (try dsimp only at hSw)
    first | (go_simp; done) | (go_simp; with_reducible rfl)
  (try simp only [Act.put, List.getElem_toArray, List.getElem_cons_succ, List.getElem_cons_zero, List.setIfInBounds_toArray, List.set_cons_zero, List.set_cons_succ])
  refine wpAnyT_take _ [] (i := 5) (oi := _) (v := ?_) (fun _ _ => Iff.rfl) (fun _ _ _ h => h) rfl (by kernel_rfl) (by kernel_rfl) (by kernel_rfl) (by kernel_rfl) (by kernel_rfl) (fun _ _ _ h => h) (by assumption) (Or.inl ⟨by kernel_rfl, ?_⟩) (fun hT => ?_)
  rotate_left 1
  · intro w hSw
    (try dsimp only at hSw)
    first | (go_simp; done) | (go_simp; with_reducible rfl)
  (try simp only [Act.put, List.getElem_toArray, List.getElem_cons_succ, List.getElem_cons_zero, List.setIfInBounds_toArray, List.set_cons_zero, List.set_cons_succ])
  refine wpAnyT_take _ [] (i := 8) (oi := _) (v := ?_) (fun _ _ => Iff.rfl) (fun _ _ _ h => h) rfl (by kernel_rfl) (by kernel_rfl) (by kernel_rfl) (by kernel_rfl) (by kernel_rfl) (fun _ _ _ h => h) (by assumption) (Or.inl ⟨by kernel_rfl, ?_⟩) (fun hT => ?_)
  rotate_left 1
  · intro w hSw
    (try dsimp only at hSw)
    first | (go_simp; done) | (go_simp; with_reducible rfl)
  (try simp only [Act.put, List.getElem_toArray, List.getElem_cons_succ, List.getElem_cons_zero, List.setIfInBounds_toArray, List.set_cons_zero, List.set_cons_succ])
  refine wpAnyT_take _ [] (i := 9) (oi := _) (v := ?_) (fun _ _ => Iff.rfl) (fun _ _ _ h => h) rfl (by kernel_rfl) (by kernel_rfl) (by kernel_rfl) (by kernel_rfl) (by kernel_rfl) (fun _ _ _ h => h) (by assumption) (Or.inl ⟨by kernel_rfl, ?_⟩) (fun hT => ?_)
  rotate_left 1
  · intro w hSw
    (try dsimp only at hSw)
    first | (go_simp; done) | (go_simp; with_reducible rfl)
  (try simp only [Act.put, List.getElem_toArray, List.getElem_cons_succ, List.getElem_cons_zero, List.setIfInBounds_toArray, List.set_cons_zero, List.set_cons_succ])
  refine wpAnyT_take _ [] (i := 13) (oi := _) (v := ?_) (fun _ _ => Iff.rfl) (fun _ _ _ h => h) rfl (by kernel_rfl) (by kernel_rfl) (by kernel_rfl) (by kernel_rfl) (by kernel_rfl) (fun _ _ _ h => h) (by assumption) (Or.inl ⟨by kernel_rfl, ?_⟩) (fun hT => ?_)
  rotate_left 1
  · intro w hSw
    (try dsimp only at hSw)
    first | (go_simp; done) | (go_simp; with_reducible rfl)
  (try simp only [Act.put, List.getElem_toArray, List.getElem_cons_succ, List.getElem_cons_zero, List.setIfInBounds_toArray, List.set_cons_zero, List.set_cons_succ])
  refine wpAnyT_one (i := 2) (by kernel_rfl) (oi := _) rfl (fun K hK => ?_)
  (try dsimp only [List.getElem_toArray, List.getElem_cons_succ, List.getElem_cons_zero])
  go_simp
  go_at_call 24
  (with_reducible refine (G_v1.out _ _ _ HD1.out (KL_fg.out _ HD1.out)).mono ?_)
  rintro e w16 ⟨rfl, hb16, hs16⟩
  go_wp2_with (fail)
  refine hK.out _ _ (HSX.out _ hb16) (fun hT => ?_)
  clear hK K
  (try simp only [Act.put, List.getElem_toArray, List.getElem_cons_succ, List.getElem_cons_zero, List.setIfInBounds_toArray, List.set_cons_zero, List.set_cons_succ])
  refine wpAnyT_take _ [] (i := 3) (oi := _) (v := ?_) (fun _ _ => Iff.rfl) (fun _ _ _ h => h) rfl (by kernel_rfl) (by kernel_rfl) (by kernel_rfl) (by kernel_rfl) (by kernel_rfl) (fun _ _ _ h => h) (by assumption) (Or.inl ⟨by kernel_rfl, ?_⟩) (fun hT => ?_)
  rotate_left 1
  · intro w hSw
    (try dsimp only at hSw)
    first | (go_simp; done) | (go_simp; with_reducible rfl)
  (try simp only [Act.put, List.getElem_toArray, List.getElem_cons_succ, List.getElem_cons_zero, List.setIfInBounds_toArray, List.set_cons_zero, List.set_cons_succ])
  refine wpAnyT_one (i := 6) (by kernel_rfl) (oi := _) rfl (fun K hK => ?_)
  (try dsimp only [List.getElem_toArray, List.getElem_cons_succ, List.getElem_cons_zero])
  go_simp
  go_at_call 24
  (with_reducible refine (G_va.out _ _ _ hb16 (KL_f.out _ hb16)).mono ?_)
  rintro e w17 ⟨rfl, hb17, hs17⟩
  go_wp2_with (fail)
  refine hK.out _ _ (HSX.out _ hb17) (fun hT => ?_)
  clear hK K
  (try simp only [Act.put, List.getElem_toArray, List.getElem_cons_succ, List.getElem_cons_zero, List.setIfInBounds_toArray, List.set_cons_zero, List.set_cons_succ])
  refine wpAnyT_take _ [] (i := 7) (oi := _) (v := ?_) (fun _ _ => Iff.rfl) (fun _ _ _ h => h) rfl (by kernel_rfl) (by kernel_rfl) (by kernel_rfl) (by kernel_rfl) (by kernel_rfl) (fun _ _ _ h => h) (by assumption) (Or.inl ⟨by kernel_rfl, ?_⟩) (fun hT => ?_)
  rotate_left 1
  · intro w hSw
    (try dsimp only at hSw)
    first | (go_simp; done) | (go_simp; with_reducible rfl)
  (try simp only [Act.put, List.getElem_toArray, List.getElem_cons_succ, List.getElem_cons_zero, List.setIfInBounds_toArray, List.set_cons_zero, List.set_cons_succ])
  refine wpAnyT_one (i := 10) (by kernel_rfl) (oi := _) rfl (fun K hK => ?_)
  (try dsimp only [List.getElem_toArray, List.getElem_cons_succ, List.getElem_cons_zero])
  go_simp
  go_at_call 24
  (with_reducible refine (G_vb.out _ _ _ hb17 (KL_g.out _ hb17)).mono ?_)
  rintro e w18 ⟨rfl, hb18, hs18⟩
  go_wp2_with (fail)
  refine hK.out _ _ (HSX.out _ hb18) (fun hT => ?_)
  clear hK K
  (try simp only [Act.put, List.getElem_toArray, List.getElem_cons_succ, List.getElem_cons_zero, List.setIfInBounds_toArray, List.set_cons_zero, List.set_cons_succ])
  refine wpAnyT_take _ [] (i := 11) (oi := _) (v := ?_) (fun _ _ => Iff.rfl) (fun _ _ _ h => h) rfl (by kernel_rfl) (by kernel_rfl) (by kernel_rfl) (by kernel_rfl) (by kernel_rfl) (fun _ _ _ h => h) (by assumption) (Or.inl ⟨by kernel_rfl, ?_⟩) (fun hT => ?_)
  rotate_left 1
  · intro w hSw
    (try dsimp only at hSw)
    first | (go_simp; done) | (go_simp; with_reducible rfl)
  (try simp only [Act.put, List.getElem_toArray, List.getElem_cons_succ, List.getElem_cons_zero, List.setIfInBounds_toArray, List.set_cons_zero, List.set_cons_succ])
  refine wpAnyT_take _ [] (i := 12) (oi := _) (v := ?_) (fun _ _ => Iff.rfl) (fun _ _ _ h => h) rfl (by kernel_rfl) (by kernel_rfl) (by kernel_rfl) (by kernel_rfl) (by kernel_rfl) (fun _ _ _ h => h) (by assumption) (Or.inl ⟨by kernel_rfl, ?_⟩) (fun hT => ?_)
  rotate_left 1
  · intro w hSw
    (try dsimp only at hSw)
    first | (go_simp; done) | (go_simp; with_reducible rfl)
  (try simp only [Act.put, List.getElem_toArray, List.getElem_cons_succ, List.getElem_cons_zero, List.setIfInBounds_toArray, List.set_cons_zero, List.set_cons_succ])
  refine wpAnyT_take _ [] (i := 14) (oi := _) (v := ?_) (fun _ _ => Iff.rfl) (fun _ _ _ h => h) rfl (by kernel_rfl) (by kernel_rfl) (by kernel_rfl) (by kernel_rfl) (by kernel_rfl) (fun _ _ _ h => h) (by assumption) (Or.inl ⟨by kernel_rfl, ?_⟩) (fun hT => ?_)
  rotate_left 1
  · intro w hSw
    (try dsimp only at hSw)
    first | (go_simp; done) | (go_simp; with_reducible rfl)
  (try simp only [Act.put, List.getElem_toArray, List.getElem_cons_succ, List.getElem_cons_zero, List.setIfInBounds_toArray, List.set_cons_zero, List.set_cons_succ])
  refine wpAnyT_take _ [] (i := 15) (oi := _) (v := ?_) (fun _ _ => Iff.rfl) (fun _ _ _ h => h) rfl (by kernel_rfl) (by kernel_rfl) (by kernel_rfl) (by kernel_rfl) (by kernel_rfl) (fun _ _ _ h => h) (by assumption) (Or.inl ⟨by kernel_rfl, ?_⟩) (fun hT => ?_)
  rotate_left 1
  · intro w hSw
    (try dsimp only at hSw)
    first | (go_simp; done) | (go_simp; with_reducible rfl)
  (try simp only [Act.put, List.getElem_toArray, List.getElem_cons_succ, List.getElem_cons_zero, List.setIfInBounds_toArray, List.set_cons_zero, List.set_cons_succ])
  refine wpAnyT_take _ [] (i := 16) (oi := _) (v := ?_) (fun _ _ => Iff.rfl) (fun _ _ _ h => h) rfl (by kernel_rfl) (by kernel_rfl) (by kernel_rfl) (by kernel_rfl) (by kernel_rfl) (fun _ _ _ h => h) (by assumption) (Or.inl ⟨by kernel_rfl, ?_⟩) (fun hT => ?_)
  rotate_left 1
  · intro w hSw
    (try dsimp only at hSw)
    first | (go_simp; done) | (go_simp; with_reducible rfl)
  (try simp only [Act.put, List.getElem_toArray, List.getElem_cons_succ, List.getElem_cons_zero, List.setIfInBounds_toArray, List.set_cons_zero, List.set_cons_succ])
  refine wpAnyT_take _ [] (i := 17) (oi := _) (v := ?_) (fun _ _ => Iff.rfl) (fun _ _ _ h => h) rfl (by kernel_rfl) (by kernel_rfl) (by kernel_rfl) (by kernel_rfl) (by kernel_rfl) (fun _ _ _ h => h) (by assumption) (Or.inl ⟨by kernel_rfl, ?_⟩) (fun hT => ?_)
  rotate_left 1
  · intro w hSw
    (try dsimp only at hSw)
    first | (go_simp; done) | (go_simp; with_reducible rfl)
  (try simp only [Act.put, List.getElem_toArray, List.getElem_cons_succ, List.getElem_cons_zero, List.setIfInBounds_toArray, List.set_cons_zero, List.set_cons_succ])
  refine wpAnyT_take _ [] (i := 18) (oi := _) (v := ?_) (fun _ _ => Iff.rfl) (fun _ _ _ h => h) rfl (by kernel_rfl) (by kernel_rfl) (by kernel_rfl) (by kernel_rfl) (by kernel_rfl) (fun _ _ _ h => h) (by assumption) (Or.inl ⟨by kernel_rfl, ?_⟩) (fun hT => ?_)
  rotate_left 1
  · intro w hSw
    (try dsimp only at hSw)
    first | (go_simp; done) | (go_simp; with_reducible rfl)
  (try simp only [Act.put, List.getElem_toArray, List.getElem_cons_succ, List.getElem_cons_zero, List.setIfInBounds_toArray, List.set_cons_zero, List.set_cons_succ])
  refine wpAnyT_take _ [] (i := 20) (oi := _) (v := ?_) (fun _ _ => Iff.rfl) (fun _ _ _ h => h) rfl (by kernel_rfl) (by kernel_rfl) (by kernel_rfl) (by kernel_rfl) (by kernel_rfl) (fun _ _ _ h => h) (by assumption) (Or.inl ⟨by kernel_rfl, ?_⟩) (fun hT => ?_)
  rotate_left 1
  · intro w hSw
    (try dsimp only at hSw)
    first | (go_simp; done) | (go_simp; with_reducible rfl)
  (try simp only [Act.put, List.getElem_toArray, List.getElem_cons_succ, List.getElem_cons_zero, List.setIfInBounds_toArray, List.set_cons_zero, List.set_cons_succ])
  refine wpAnyT_take _ [] (i := 23) (oi := _) (v := ?_) (fun _ _ => Iff.rfl) (fun _ _ _ h => h) rfl (by kernel_rfl) (by kernel_rfl) (by kernel_rfl) (by kernel_rfl) (by kernel_rfl) (fun _ _ _ h => h) (by assumption) (Or.inl ⟨by kernel_rfl, ?_⟩) (fun hT => ?_)
  rotate_left 1
  · intro w hSw
    (try dsimp only at hSw)
    first | (go_simp; done) | (go_simp; with_reducible rfl)
  (try simp only [Act.put, List.getElem_toArray, List.getElem_cons_succ, List.getElem_cons_zero, List.setIfInBounds_toArray, List.set_cons_zero, List.set_cons_succ])
  refine wpAnyT_take _ [] (i := 24) (oi := _) (v := ?_) (fun _ _ => Iff.rfl) (fun _ _ _ h => h) rfl (by kernel_rfl) (by kernel_rfl) (by kernel_rfl) (by kernel_rfl) (by kernel_rfl) (fun _ _ _ h => h) (by assumption) (Or.inl ⟨by kernel_rfl, ?_⟩) (fun hT => ?_)
  rotate_left 1
  · intro w hSw
    (try dsimp only at hSw)
    first | (go_simp; done) | (go_simp; with_reducible rfl)
  (try simp only [Act.put, List.getElem_toArray, List.getElem_cons_succ, List.getElem_cons_zero, List.setIfInBounds_toArray, List.set_cons_zero, List.set_cons_succ])
  refine wpAnyT_take _ [] (i := 27) (oi := _) (v := ?_) (fun _ _ => Iff.rfl) (fun _ _ _ h => h) rfl (by kernel_rfl) (by kernel_rfl) (by kernel_rfl) (by kernel_rfl) (by kernel_rfl) (fun _ _ _ h => h) (by assumption) (Or.inl ⟨by kernel_rfl, ?_⟩) (fun hT => ?_)
  rotate_left 1
  · intro w hSw
    (try dsimp only at hSw)
    first | (go_simp; done) | (go_simp; with_reducible rfl)
  (try simp only [Act.put, List.getElem_toArray, List.getElem_cons_succ, List.getElem_cons_zero, List.setIfInBounds_toArray, List.set_cons_zero, List.set_cons_succ])
  refine wpAnyT_take _ [] (i := 28) (oi := _) (v := ?_) (fun _ _ => Iff.rfl) (fun _ _ _ h => h) rfl (by kernel_rfl) (by kernel_rfl) (by kernel_rfl) (by kernel_rfl) (by kernel_rfl) (fun _ _ _ h => h) (by assumption) (Or.inl ⟨by kernel_rfl, ?_⟩) (fun hT => ?_)
  rotate_left 1
  · intro w hSw
    (try dsimp only at hSw)
    first | (go_simp; done) | (go_simp; with_reducible rfl)
  (try simp only [Act.put, List.getElem_toArray, List.getElem_cons_succ, List.getElem_cons_zero, List.setIfInBounds_toArray, List.set_cons_zero, List.set_cons_succ])
  refine wpAnyT_take _ [] (i := 32) (oi := _) (v := ?_) (fun _ _ => Iff.rfl) (fun _ _ _ h => h) rfl (by kernel_rfl) (by kernel_rfl) (by kernel_rfl) (by kernel_rfl) (by kernel_rfl) (fun _ _ _ h => h) (by assumption) (Or.inl ⟨by kernel_rfl, ?_⟩) (fun hT => ?_)
  rotate_left 1
  · intro w hSw
    (try dsimp only at hSw)
    first | (go_simp; done) | (go_simp; with_reducible rfl)
  (try simp only [Act.put, List.getElem_toArray, List.getElem_cons_succ, List.getElem_cons_zero, List.setIfInBounds_toArray, List.set_cons_zero, List.set_cons_succ])
  refine wpAnyT_one (i := 19) (by kernel_rfl) (oi := _) rfl (fun K hK => ?_)
  (try dsimp only [List.getElem_toArray, List.getElem_cons_succ, List.getElem_cons_zero])
  go_simp
  go_at_call 30
  (with_reducible refine (G_s3.out _ _ _ _ _ hb18 (KL_f.out _ hb18) cap_f (KL_g.out _ hb18)).mono ?_)
  rintro e w19 ⟨A_s3, c_s3, rfl, h_s3, hc_s3, hb19, hs19⟩
  go_wp2_with (fail)
  refine hK.out _ _ (HSX.out _ hb19) (fun hT => ?_)
  clear hK K
  (try simp only [Act.put, List.getElem_toArray, List.getElem_cons_succ, List.getElem_cons_zero, List.setIfInBounds_toArray, List.set_cons_zero, List.set_cons_succ])
  refine wpAnyT_one (i := 21) (by kernel_rfl) (oi := _) rfl (fun K hK => ?_)
  (try dsimp only [List.getElem_toArray, List.getElem_cons_succ, List.getElem_cons_zero])
  go_simp
  go_at_call 24
  (with_reducible refine (G_v2.out _ _ _ hb19 h_s3.kl).mono ?_)
  rintro e w20 ⟨rfl, hb20, hs20⟩
  have h_s3 := h_s3.below hs20
  go_wp2_with (fail)
  refine hK.out _ _ (HSX.out _ hb20) (fun hT => ?_)
  clear hK K
  (try simp only [Act.put, List.getElem_toArray, List.getElem_cons_succ, List.getElem_cons_zero, List.setIfInBounds_toArray, List.set_cons_zero, List.set_cons_succ])
  refine wpAnyT_take _ [] (i := 22) (oi := _) (v := ?_) (fun _ _ => Iff.rfl) (fun _ _ _ h => h) rfl (by kernel_rfl) (by kernel_rfl) (by kernel_rfl) (by kernel_rfl) (by kernel_rfl) (fun _ _ _ h => h) (by assumption) (Or.inl ⟨by kernel_rfl, ?_⟩) (fun hT => ?_)
  rotate_left 1
  · intro w hSw
    (try dsimp only at hSw)
    first | (go_simp; done) | (go_simp; with_reducible rfl)
  (try simp only [Act.put, List.getElem_toArray, List.getElem_cons_succ, List.getElem_cons_zero, List.setIfInBounds_toArray, List.set_cons_zero, List.set_cons_succ])
  refine wpAnyT_one (i := 25) (by kernel_rfl) (oi := _) rfl (fun K hK => ?_)
  (try dsimp only [List.getElem_toArray, List.getElem_cons_succ, List.getElem_cons_zero])
  go_simp
  go_at_call 24
  (with_reducible refine (G_va.out _ _ _ hb20 (KL_f.out _ hb20)).mono ?_)
  rintro e w21 ⟨rfl, hb21, hs21⟩
  go_wp2_with (fail)
  refine hK.out _ _ (HSX.out _ hb21) (fun hT => ?_)
  clear hK K
  (try simp only [Act.put, List.getElem_toArray, List.getElem_cons_succ, List.getElem_cons_zero, List.setIfInBounds_toArray, List.set_cons_zero, List.set_cons_succ])
  refine wpAnyT_take _ [] (i := 26) (oi := _) (v := ?_) (fun _ _ => Iff.rfl) (fun _ _ _ h => h) rfl (by kernel_rfl) (by kernel_rfl) (by kernel_rfl) (by kernel_rfl) (by kernel_rfl) (fun _ _ _ h => h) (by assumption) (Or.inl ⟨by kernel_rfl, ?_⟩) (fun hT => ?_)
  rotate_left 1
  · intro w hSw
    (try dsimp only at hSw)
    first | (go_simp; done) | (go_simp; with_reducible rfl)
  (try simp only [Act.put, List.getElem_toArray, List.getElem_cons_succ, List.getElem_cons_zero, List.setIfInBounds_toArray, List.set_cons_zero, List.set_cons_succ])
  refine wpAnyT_one (i := 29) (by kernel_rfl) (oi := _) rfl (fun K hK => ?_)
  (try dsimp only [List.getElem_toArray, List.getElem_cons_succ, List.getElem_cons_zero])
  go_simp
  go_at_call 24
  (with_reducible refine (G_vb.out _ _ _ hb21 (KL_g.out _ hb21)).mono ?_)
  rintro e w22 ⟨rfl, hb22, hs22⟩
  go_wp2_with (fail)
  refine hK.out _ _ (HSX.out _ hb22) (fun hT => ?_)
  clear hK K
  (try simp only [Act.put, List.getElem_toArray, List.getElem_cons_succ, List.getElem_cons_zero, List.setIfInBounds_toArray, List.set_cons_zero, List.set_cons_succ])
  refine wpAnyT_take _ [] (i := 30) (oi := _) (v := ?_) (fun _ _ => Iff.rfl) (fun _ _ _ h => h) rfl (by kernel_rfl) (by kernel_rfl) (by kernel_rfl) (by kernel_rfl) (by kernel_rfl) (fun _ _ _ h => h) (by assumption) (Or.inl ⟨by kernel_rfl, ?_⟩) (fun hT => ?_)
  rotate_left 1
  · intro w hSw
    (try dsimp only at hSw)
    first | (go_simp; done) | (go_simp; with_reducible rfl)
  (try simp only [Act.put, List.getElem_toArray, List.getElem_cons_succ, List.getElem_cons_zero, List.setIfInBounds_toArray, List.set_cons_zero, List.set_cons_succ])
  refine wpAnyT_take _ [] (i := 31) (oi := _) (v := ?_) (fun _ _ => Iff.rfl) (fun _ _ _ h => h) rfl (by kernel_rfl) (by kernel_rfl) (by kernel_rfl) (by kernel_rfl) (by kernel_rfl) (fun _ _ _ h => h) (by assumption) (Or.inl ⟨by kernel_rfl, ?_⟩) (fun hT => ?_)
  rotate_left 1
  · intro w hSw
    (try dsimp only at hSw)
    first | (go_simp; done) | (go_simp; with_reducible rfl)
  (try simp only [Act.put, List.getElem_toArray, List.getElem_cons_succ, List.getElem_cons_zero, List.setIfInBounds_toArray, List.set_cons_zero, List.set_cons_succ])
  refine wpAnyT_take _ [] (i := 33) (oi := _) (v := ?_) (fun _ _ => Iff.rfl) (fun _ _ _ h => h) rfl (by kernel_rfl) (by kernel_rfl) (by kernel_rfl) (by kernel_rfl) (by kernel_rfl) (fun _ _ _ h => h) (by assumption) (Or.inl ⟨by kernel_rfl, ?_⟩) (fun hT => ?_)
  rotate_left 1
  · intro w hSw
    (try dsimp only at hSw)
    first | (go_simp; done) | (go_simp; with_reducible rfl)
  (try simp only [Act.put, List.getElem_toArray, List.getElem_cons_succ, List.getElem_cons_zero, List.setIfInBounds_toArray, List.set_cons_zero, List.set_cons_succ])
  refine wpAnyT_take _ [] (i := 34) (oi := _) (v := ?_) (fun _ _ => Iff.rfl) (fun _ _ _ h => h) rfl (by kernel_rfl) (by kernel_rfl) (by kernel_rfl) (by kernel_rfl) (by kernel_rfl) (fun _ _ _ h => h) (by assumption) (Or.inl ⟨by kernel_rfl, ?_⟩) (fun hT => ?_)
  rotate_left 1
  · intro w hSw
    (try dsimp only at hSw)
    first | (go_simp; done) | (go_simp; with_reducible rfl)
  (try simp only [Act.put, List.getElem_toArray, List.getElem_cons_succ, List.getElem_cons_zero, List.setIfInBounds_toArray, List.set_cons_zero, List.set_cons_succ])
  refine wpAnyT_take _ [] (i := 35) (oi := _) (v := ?_) (fun _ _ => Iff.rfl) (fun _ _ _ h => h) rfl (by kernel_rfl) (by kernel_rfl) (by kernel_rfl) (by kernel_rfl) (by kernel_rfl) (fun _ _ _ h => h) (by assumption) (Or.inl ⟨by kernel_rfl, ?_⟩) (fun hT => ?_)
  rotate_left 1
  · intro w hSw
    (try dsimp only at hSw)
    first | (go_simp; done) | (go_simp; with_reducible rfl)
  (try simp only [Act.put, List.getElem_toArray, List.getElem_cons_succ, List.getElem_cons_zero, List.setIfInBounds_toArray, List.set_cons_zero, List.set_cons_succ])
  refine wpAnyT_done (by kernel_rfl) ?_ _
  refine NoPanic.normal ?_
  have HD2 := Lib.hid (hb22.drew)
  go_wp2
  refine wp_region_noPanic ?_
  refine wp_region_tail (fun (_ : Array Bool) (W : World) => ((W.cell? ⟨w.heap.size, 0, none⟩ = some (.int .u32 (p : Int)) ∧ W.cell? ⟨w.heap.size, 1, none⟩ = some (.slice A f.length c)) ∧ (W.cell? ⟨w.heap.size + 1, 0, none⟩ = some (.int .u32 (p : Int)) ∧ W.cell? ⟨w.heap.size + 1, 1, none⟩ = some (.slice B g.length d)) ∧ (W.cell? ⟨w.heap.size + 1 + 1, 0, none⟩ = some (.int .u32 (p : Int)) ∧ W.cell? ⟨w.heap.size + 1 + 1, 1, none⟩ = some (.slice D h.length e))) ∧ (W.cell? ⟨w4.heap.size, 0, none⟩ = some (.int .u32 (p : Int)) ∧ W.cell? ⟨w4.heap.size, 1, none⟩ = some (.slice FA fg.length fc))) (by kernel_rfl) (HSX.out _ HD2.out) (fun hT => ?_)
  refine wpAnyT_take _ [] (i := 0) (oi := _) (v := ?_) (fun _ _ => Iff.rfl) (fun _ _ _ h => h) rfl (by kernel_rfl) (by kernel_rfl) (by kernel_rfl) (by kernel_rfl) (by kernel_rfl) (fun _ _ _ h => h) (by assumption) (Or.inl ⟨by kernel_rfl, ?_⟩) (fun hT => ?_)
  rotate_left 1
  · intro w hSw
    (try dsimp only at hSw)
    first | (go_simp; done) | (go_simp; with_reducible rfl)
  (try simp only [Act.put, List.getElem_toArray, List.getElem_cons_zero, List.setIfInBounds_toArray, List.set_cons_zero, List.set_cons_succ])
  refine wpAnyT_take _ [] (i := 2) (oi := _) (v := ?_) (fun _ _ => Iff.rfl) (fun _ _ _ h => h) rfl (by kernel_rfl) (by kernel_rfl) (by kernel_rfl) (by kernel_rfl) (by kernel_rfl) (fun _ _ _ h => h) (by assumption) (Or.inl ⟨by kernel_rfl, ?_⟩) (fun hT => ?_)
  rotate_left 1
  · intro w hSw
    (try dsimp only at hSw)
    first | (go_simp; done) | (go_simp; with_reducible rfl)
  (try simp only [Act.put, List.getElem_toArray, List.getElem_cons_succ, List.getElem_cons_zero, List.setIfInBounds_toArray, List.set_cons_zero, List.set_cons_succ])
  refine wpAnyT_take _ [] (i := 4) (oi := _) (v := ?_) (fun _ _ => Iff.rfl) (fun _ _ _ h => h) rfl (by kernel_rfl) (by kernel_rfl) (by kernel_rfl) (by kernel_rfl) (by kernel_rfl) (fun _ _ _ h => h) (by assumption) (Or.inl ⟨by kernel_rfl, ?_⟩) (fun hT => ?_)
  rotate_left 1
  · intro w hSw
    (try dsimp only at hSw)
    first | (go_simp; done) | (go_simp; with_reducible rfl)
  (try simp only [Act.put, List.getElem_toArray, List.getElem_cons_succ, List.getElem_cons_zero, List.setIfInBounds_toArray, List.set_cons_zero, List.set_cons_succ])
  refine wpAnyT_take _ [] (i := 6) (oi := _) (v := ?_) (fun _ _ => Iff.rfl) (fun _ _ _ h => h) rfl (by kernel_rfl) (by kernel_rfl) (by kernel_rfl) (by kernel_rfl) (by kernel_rfl) (fun _ _ _ h => h) (by assumption) (Or.inl ⟨by kernel_rfl, ?_⟩) (fun hT => ?_)
  rotate_left 1
  · intro w hSw
    (try dsimp only at hSw)
    first | (go_simp; done) | (go_simp; with_reducible rfl)
  (try simp only [Act.put, List.getElem_toArray, List.getElem_cons_succ, List.getElem_cons_zero, List.setIfInBounds_toArray, List.set_cons_zero, List.set_cons_succ])
  refine wpAnyT_take _ [] (i := 7) (oi := _) (v := ?_) (fun _ _ => Iff.rfl) (fun _ _ _ h => h) rfl (by kernel_rfl) (by kernel_rfl) (by kernel_rfl) (by kernel_rfl) (by kernel_rfl) (fun _ _ _ h => h) (by assumption) (Or.inl ⟨by kernel_rfl, ?_⟩) (fun hT => ?_)
  rotate_left 1
  · intro w hSw
    (try dsimp only at hSw)
    first | (go_simp; done) | (go_simp; with_reducible rfl)
  (try simp only [Act.put, List.getElem_toArray, List.getElem_cons_succ, List.getElem_cons_zero, List.setIfInBounds_toArray, List.set_cons_zero, List.set_cons_succ])
  refine wpAnyT_one (i := 1) (by kernel_rfl) (oi := _) rfl (fun K hK => ?_)
  (try dsimp only [List.getElem_toArray, List.getElem_cons_succ, List.getElem_cons_zero])
  go_simp
  go_at_call 26
  (with_reducible refine (G_d1.out _ _ _ HD2.out (KL_fg.out _ HD2.out)).mono ?_)
  rintro e w23 ⟨A_d1, c_d1, rfl, h_d1, hc_d1, hb23, hs23⟩
  go_wp2_with (fail)
  refine hK.out _ _ (HSX.out _ hb23) (fun hT => ?_)
  clear hK K
  (try simp only [Act.put, List.getElem_toArray, List.getElem_cons_succ, List.getElem_cons_zero, List.setIfInBounds_toArray, List.set_cons_zero, List.set_cons_succ])
  refine wpAnyT_one (i := 3) (by kernel_rfl) (oi := _) rfl (fun K hK => ?_)
  (try dsimp only [List.getElem_toArray, List.getElem_cons_succ, List.getElem_cons_zero])
  go_simp
  go_at_call 26
  (with_reducible refine (G_d2.out _ _ _ hb23 (KL_f.out _ hb23)).mono ?_)
  rintro e w24 ⟨A_d2, c_d2, rfl, h_d2, hc_d2, hb24, hs24⟩
  have h_d1 := h_d1.below hs24
  go_wp2_with (fail)
  refine hK.out _ _ (HSX.out _ hb24) (fun hT => ?_)
  clear hK K
  (try simp only [Act.put, List.getElem_toArray, List.getElem_cons_succ, List.getElem_cons_zero, List.setIfInBounds_toArray, List.set_cons_zero, List.set_cons_succ])
  refine wpAnyT_one (i := 5) (by kernel_rfl) (oi := _) rfl (fun K hK => ?_)
  (try dsimp only [List.getElem_toArray, List.getElem_cons_succ, List.getElem_cons_zero])
  go_simp
  go_at_call 34
  (with_reducible refine (G_m7.out _ _ _ _ _ hb24 h_d2.kl hc_d2 (KL_g.out _ hb24)).mono ?_)
  rintro e w25 ⟨A_m7, c_m7, rfl, h_m7, hc_m7, hb25, hs25⟩
  have h_d1 := h_d1.below hs25
  have h_d2 := h_d2.below hs25
  go_wp2_with (fail)
  refine hK.out _ _ (HSX.out _ hb25) (fun hT => ?_)
  clear hK K
  (try simp only [Act.put, List.getElem_toArray, List.getElem_cons_succ, List.getElem_cons_zero, List.setIfInBounds_toArray, List.set_cons_zero, List.set_cons_succ])
  refine wpAnyT_one (i := 8) (by kernel_rfl) (oi := _) rfl (fun K hK => ?_)
  (try dsimp only [List.getElem_toArray, List.getElem_cons_succ, List.getElem_cons_zero])
  go_simp
  go_at_call 26
  (with_reducible refine (G_d3.out _ _ _ hb25 (KL_g.out _ hb25)).mono ?_)
  rintro e w26 ⟨A_d3, c_d3, rfl, h_d3, hc_d3, hb26, hs26⟩
  have h_d1 := h_d1.below hs26
  have h_m7 := h_m7.below hs26
  go_wp2_with (fail)
  refine hK.out _ _ (HSX.out _ hb26) (fun hT => ?_)
  clear hK K
  (try simp only [Act.put, List.getElem_toArray, List.getElem_cons_succ, List.getElem_cons_zero, List.setIfInBounds_toArray, List.set_cons_zero, List.set_cons_succ])
  refine wpAnyT_one (i := 9) (by kernel_rfl) (oi := _) rfl (fun K hK => ?_)
  (try dsimp only [List.getElem_toArray, List.getElem_cons_succ, List.getElem_cons_zero])
  go_simp
  go_at_call 34
  (with_reducible refine (G_m8.out _ _ _ _ _ hb26 (KL_f.out _ hb26) cap_f h_d3.kl).mono ?_)
  rintro e w27 ⟨A_m8, c_m8, rfl, h_m8, hc_m8, hb27, hs27⟩
  have h_d1 := h_d1.below hs27
  have h_m7 := h_m7.below hs27
  have h_d3 := h_d3.below hs27
  go_wp2_with (fail)
  refine hK.out _ _ (HSX.out _ hb27) (fun hT => ?_)
  clear hK K
  (try simp only [Act.put, List.getElem_toArray, List.getElem_cons_succ, List.getElem_cons_zero, List.setIfInBounds_toArray, List.set_cons_zero, List.set_cons_succ])
  refine wpAnyT_one (i := 10) (by kernel_rfl) (oi := _) rfl (fun K hK => ?_)
  (try dsimp only [List.getElem_toArray, List.getElem_cons_succ, List.getElem_cons_zero])
  go_simp
  go_at_call 30
  (with_reducible refine (G_s4.out _ _ _ _ _ hb27 h_m7.kl hc_m7 h_m8.kl).mono ?_)
  rintro e w28 ⟨A_s4, c_s4, rfl, h_s4, hc_s4, hb28, hs28⟩
  have h_d1 := h_d1.below hs28
  have h_m7 := h_m7.below hs28
  have h_m8 := h_m8.below hs28
  go_wp2_with (fail)
  refine hK.out _ _ (HSX.out _ hb28) (fun hT => ?_)
  clear hK K
  (try simp only [Act.put, List.getElem_toArray, List.getElem_cons_succ, List.getElem_cons_zero, List.setIfInBounds_toArray, List.set_cons_zero, List.set_cons_succ])
  refine wpAnyT_one (i := 11) (by kernel_rfl) (oi := _) rfl (fun K hK => ?_)
  (try dsimp only [List.getElem_toArray, List.getElem_cons_succ, List.getElem_cons_zero])
  go_simp
  go_at_call 16
  (with_reducible refine (G_q4.out _ _ _ _ _ hb28 h_d1.kl h_s4.kl).mono ?_)
  rintro e w29 ⟨rfl, hb29, hs29⟩
  have h_d1 := h_d1.below hs29
  have h_m7 := h_m7.below hs29
  have h_m8 := h_m8.below hs29
  have h_s4 := h_s4.below hs29
  go_wp2_with (fail)
  refine hK.out _ _ (HSX.out _ hb29) (fun hT => ?_)
  clear hK K
  (try simp only [Act.put, List.getElem_toArray, List.getElem_cons_succ, List.getElem_cons_zero, List.setIfInBounds_toArray, List.set_cons_zero, List.set_cons_succ])
  refine wpAnyT_take _ [] (i := 12) (oi := _) (v := ?_) (fun _ _ => Iff.rfl) (fun _ _ _ h => h) rfl (by kernel_rfl) (by kernel_rfl) (by kernel_rfl) (by kernel_rfl) (by kernel_rfl) (fun _ _ _ h => h) (by assumption) (Or.inl ⟨by kernel_rfl, ?_⟩) (fun hT => ?_)
  rotate_left 1
  · intro w hSw
    (try dsimp only at hSw)
    first | (go_simp; done) | (go_simp; with_reducible rfl)
  (try simp only [Act.put, List.getElem_toArray, List.getElem_cons_succ, List.getElem_cons_zero, List.setIfInBounds_toArray, List.set_cons_zero, List.set_cons_succ])
  refine wpAnyT_done (by kernel_rfl) ?_ _
  refine NoPanic.normal ?_
  go_wp2
  go_ret
  exact ⟨ret_bool (by first | rfl | (simp; done)), below_chain HBW.out hb29⟩
end Go.Proofs.YtlndchmpnnlacaaDoor
