/- Contract: HoldsGcd. -/
import Derived.Test.YtlndchmpnnlacaaDoorSum
namespace Go.Proofs.YtlndchmpnnlacaaDoor
open Go.RowKit
/-- When it holds that G is the gcd of f and g, with U and V. -/
def GcdP (pf pg pG pU pV : Nat) (f g G U V : List Int) : Prop :=
  (pg = pf ∧ pG = pf ∧ pU = pf ∧ pV = pf) ∧ (MayP pf f ∧ MayP pf g ∧ MayP pf G ∧ MayP pf U ∧ MayP pf V) ∧ IsGcd pf f g G U V
def ToldG (h : Prop) (w : World) (e : Ending) (w' : World) : Prop := (∃ b : Bool, e = .returned (.bool b) ∧ (b = true ↔ h)) ∧ Below w.heap.size w w'
def sel5 {α : Type} (a b c d e : α) : Nat → α
  | 0 => a
  | 1 => b
  | 2 => c
  | 3 => d
  | _ => e
/-- What the loop's round k asks. -/
def OkP (pf pg pG pU pV : Nat) (f g G U V : List Int) (k : Nat) : Prop := sel5 pf pg pG pU pV k = pf ∧ MayP pf (sel5 f g G U V k)
theorem GcdP.ok {pf pg pG pU pV : Nat} {f g G U V : List Int} (h : GcdP pf pg pG pU pV f g G U V) (k : Nat) : OkP pf pg pG pU pV f g G U V k := by
  obtain ⟨⟨e1, e2, e3, e4⟩, ⟨m1, m2, m3, m4, m5⟩, _⟩ := h
  match k with
  | 0 => exact ⟨rfl, m1⟩
  | 1 => exact ⟨e1, m2⟩
  | 2 => exact ⟨e2, m3⟩
  | 3 => exact ⟨e3, m4⟩
  | k + 4 => exact ⟨e4, m5⟩
theorem GcdP.of {pf pg pG pU pV : Nat} {f g G U V : List Int} (h : ∀ k, k < 5 → OkP pf pg pG pU pV f g G U V k) (hi : IsGcd pf f g G U V) : GcdP pf pg pG pU pV f g G U V :=
  ⟨⟨(h 1 (by omega)).1, (h 2 (by omega)).1, (h 3 (by omega)).1, (h 4 (by omega)).1⟩, ⟨(h 0 (by omega)).2, (h 1 (by omega)).2, (h 2 (by omega)).2, (h 3 (by omega)).2, (h 4 (by omega)).2⟩, hi⟩
theorem toldG_no {h : Prop} {w W : World} (hn : ¬ h) (hb : Below w.heap.size w W) : ToldG h w (.returned (.bool false)) W := ⟨⟨false, rfl, fun h1 => (by cases h1), fun h1 => absurd h1 hn⟩, hb⟩
/-- A block of three polynomials over any numbers. -/
def Six5 (W : World) (b p q r : Nat) (u v t : Value) : Prop :=
  W.cell? ⟨b, 0, none⟩ = some (.int .u32 (p : Int)) ∧ W.cell? ⟨b, 1, none⟩ = some u ∧ W.cell? ⟨b, 2, none⟩ = some (.int .u32 (q : Int)) ∧ W.cell? ⟨b, 3, none⟩ = some v ∧ W.cell? ⟨b, 4, none⟩ = some (.int .u32 (r : Int)) ∧ W.cell? ⟨b, 5, none⟩ = some t
theorem Six5.up {W W' : World} {b p q r B : Nat} {u v t : Value} (h : Six5 W b p q r u v t) (hb : Below B W W') (hB : b < B) : Six5 W' b p q r u v t := by
  obtain ⟨c0, c1, c2, c3, c4, c5⟩ := h
  have c : ∀ o, W'.cell? ⟨b, o, none⟩ = W.cell? ⟨b, o, none⟩ := fun o => hb.cell (p := ⟨b, o, none⟩) hB
  exact ⟨(c 0).trans c0, (c 1).trans c1, (c 2).trans c2, (c 3).trans c3, (c 4).trans c4, (c 5).trans c5⟩
/-- The boxes and the row of HoldsGcd. -/
def HoldB (w : World) (pf pg pG pU pV : Nat) (A B AG AU AV : Option Addr) (f g G U V : List Int) (c d cG cU cV : Nat) (W : World) : Prop :=
  (W.cell? ⟨w.heap.size, 0, none⟩ = some (.int .u32 (pf : Int)) ∧ W.cell? ⟨w.heap.size, 1, none⟩ = some (.slice A f.length c)) ∧
  (W.cell? ⟨w.heap.size + 1, 0, none⟩ = some (.int .u32 (pg : Int)) ∧ W.cell? ⟨w.heap.size + 1, 1, none⟩ = some (.slice B g.length d)) ∧
  Six5 W (w.heap.size + 1 + 1) pG pU pV (.slice AG G.length cG) (.slice AU U.length cU) (.slice AV V.length cV) ∧
  (∀ k, k < 5 → W.cell? ⟨w.heap.size + 1 + 1 + 1, k * 2, none⟩ = some (.int .u32 ((sel5 pf pg pG pU pV k : Nat) : Int)) ∧ W.cell? ⟨w.heap.size + 1 + 1 + 1, k * 2 + 1, none⟩ = some (.slice (sel5 A B AG AU AV k) (sel5 f g G U V k).length (sel5 c d cG cU cV k))) ∧
  w.heap.size + 1 + 1 + 1 + 1 ≤ W.heap.size ∧ Below w.heap.size w W
theorem HoldB.up {w : World} {pf pg pG pU pV : Nat} {A B AG AU AV : Option Addr} {f g G U V : List Int} {c d cG cU cV : Nat} {W W' : World} (h : HoldB w pf pg pG pU pV A B AG AU AV f g G U V c d cG cU cV W) (hb : Below W.heap.size W W') : HoldB w pf pg pG pU pV A B AG AU AV f g G U V c d cG cU cV W' := by
  obtain ⟨⟨a0, a1⟩, ⟨b0, b1⟩, hs, hr, hz, hw⟩ := h
  have cc : ∀ b o, b < W.heap.size → W'.cell? ⟨b, o, none⟩ = W.cell? ⟨b, o, none⟩ := fun b o h => hb.cell (p := ⟨b, o, none⟩) h
  exact ⟨⟨(cc _ _ (by omega)).trans a0, (cc _ _ (by omega)).trans a1⟩, ⟨(cc _ _ (by omega)).trans b0, (cc _ _ (by omega)).trans b1⟩, hs.up hb (by omega), fun k hk => ⟨(cc _ _ (by omega)).trans (hr k hk).1, (cc _ _ (by omega)).trans (hr k hk).2⟩, Nat.le_trans hz hb.size, hw.trans (hb.mono hw.size)⟩
set_option maxRecDepth 100000 in
set_option maxHeartbeats 4000000 in
theorem holdsgcd_any (pf pg pG pU pV : Nat) (A B AG AU AV : Option Addr) (f g G U V : List Int) (c d cG cU cV : Nat) (w : World) (htab : TabG w)
    (hA : KL .u32 w w.heap.size A f) (hB : KL .u32 w w.heap.size B g) (hG : KL .u32 w w.heap.size AG G) (hU : KL .u32 w w.heap.size AU U) (hV : KL .u32 w w.heap.size AV V)
    (hp : pf ≤ 4294967295 ∧ pg ≤ 4294967295 ∧ pG ≤ 4294967295 ∧ pU ≤ 4294967295 ∧ pV ≤ 4294967295)
    (hd : Dig 4294967296 f ∧ Dig 4294967296 g ∧ Dig 4294967296 G ∧ Dig 4294967296 U ∧ Dig 4294967296 V)
    (hl : f.length ≤ 1000000 ∧ g.length ≤ 1000000 ∧ G.length ≤ 1000000 ∧ U.length ≤ 1000000 ∧ V.length ≤ 1000000) (hc : U.length ≤ cU ∧ V.length ≤ cV) :
    Calls Tryd.prog 50 #[.agg #[.int .u32 (pf : Int), .slice A f.length c], .agg #[.int .u32 (pg : Int), .slice B g.length d], .agg #[.int .u32 (pG : Int), .slice AG G.length cG, .int .u32 (pU : Int), .slice AU U.length cU, .int .u32 (pV : Int), .slice AV V.length cV]] w
      (ToldG (GcdP pf pg pG pU pV f g G U V) w) := by
  have HKS : Hid (∀ k, k < 5 → KL .u32 w w.heap.size (sel5 A B AG AU AV k) (sel5 f g G U V k) ∧ sel5 pf pg pG pU pV k ≤ 4294967295 ∧ Dig 4294967296 (sel5 f g G U V k) ∧ (sel5 f g G U V k).length ≤ 1000000) := Lib.hid fun k hk => by
    match k, hk with
    | 0, _ => exact ⟨hA, hp.1, hd.1, hl.1⟩
    | 1, _ => exact ⟨hB, hp.2.1, hd.2.1, hl.2.1⟩
    | 2, _ => exact ⟨hG, hp.2.2.1, hd.2.2.1, hl.2.2.1⟩
    | 3, _ => exact ⟨hU, hp.2.2.2.1, hd.2.2.2.1, hl.2.2.2.1⟩
    | 4, _ => exact ⟨hV, hp.2.2.2.2, hd.2.2.2.2, hl.2.2.2.2⟩
  have HA := Lib.hid hA
  have HBG := Lib.hid hB
  have HGG := Lib.hid hG
  have HU := Lib.hid hU
  have HV := Lib.hid hV
  have HL := Lib.hid hl
  have HC := Lib.hid hc
  have HT := Lib.hid htab
  obtain ⟨GP, hGP⟩ : ∃ h : Prop, GcdP pf pg pG pU pV f g G U V = h := ⟨_, rfl⟩
  have HGP := Lib.hid hGP
  rw [hGP]
  clear hA hB hG hU hV hp hd hl hc htab hGP
  go_enter Tryd.func50, Tryd.ntmps50
  go_wp2
  have HH0 : Hid (∃ W0 : World, ((((w.alloc (.cells #[.int .u32 (pf : Int), .slice A f.length c] 25)).alloc (.cells #[.int .u32 (pg : Int), .slice B g.length d] 25)).alloc (.cells #[.int .u32 (pG : Int), .slice AG G.length cG, .int .u32 (pU : Int), .slice AU U.length cU, .int .u32 (pV : Int), .slice AV V.length cV] 54)).alloc (.cells #[.int .u32 (pf : Int), .slice A f.length c, .int .u32 (pg : Int), .slice B g.length d, .int .u32 (pG : Int), .slice AG G.length cG, .int .u32 (pU : Int), .slice AU U.length cU, .int .u32 (pV : Int), .slice AV V.length cV] 25)) = W0 ∧ HoldB w pf pg pG pU pV A B AG AU AV f g G U V c d cG cU cV W0) := Lib.hid (by
    refine ⟨_, rfl, ⟨by go_cell, by go_cell⟩, ⟨by go_cell, by go_cell⟩, ⟨by go_cell, by go_cell, by go_cell, by go_cell, by go_cell, by go_cell⟩, fun k hk => ?_, by simp, by go_grown⟩
    match k, hk with
    | 0, _ => exact ⟨(by simp only [sel5]; go_cell), (by simp only [sel5]; go_cell)⟩
    | 1, _ => exact ⟨(by simp only [sel5]; go_cell), (by simp only [sel5]; go_cell)⟩
    | 2, _ => exact ⟨(by simp only [sel5]; go_cell), (by simp only [sel5]; go_cell)⟩
    | 3, _ => exact ⟨(by simp only [sel5]; go_cell), (by simp only [sel5]; go_cell)⟩
    | 4, _ => exact ⟨(by simp only [sel5]; go_cell), (by simp only [sel5]; go_cell)⟩)
  obtain ⟨W0, hW0, hh0⟩ := HH0.out
  rw [hW0]
  clear hW0 HH0
  have HH0 := Lib.hid hh0
  clear hh0
  go_loopg [19] 5 (fun gg i wr => ∃ k : Nat, k + gg = 5 ∧ i = .int .i64 k ∧ (∀ j, j < k → OkP pf pg pG pU pV f g G U V j) ∧ HoldB w pf pg pG pU pV A B AG AU AV f g G U V c d cG cU cV wr)
  case atStart => exact ⟨0, rfl, rfl, fun j hj => by omega, HH0.out⟩
  case round =>
    obtain ⟨k, hkg, rfl, hok, hHB⟩ := hrel
    have HOK := Lib.hid hok
    have HHB := Lib.hid hHB
    clear hok hHB HH0
    cases gk with
    | succ gg =>
      have hlt : k < 5 := by omega
      have hlti : (k : Int) < 5 := by omega
      obtain ⟨⟨a0, a1⟩, _, _, hr, hz, hw⟩ := HHB.out
      obtain ⟨e0, e1⟩ := hr k hlt
      obtain ⟨hk1, hk2, hk3, hk4⟩ := HKS.out k hlt
      have HOKK : Hid (GcdP pf pg pG pU pV f g G U V → sel5 pf pg pG pU pV k = pf ∧ MayP pf (sel5 f g G U V k)) := Lib.hid fun h => h.ok k
      have HNX : Hid (sel5 pf pg pG pU pV k = pf → MayP pf (sel5 f g G U V k) → ∀ j, j < k + 1 → OkP pf pg pG pU pV f g G U V j) := Lib.hid fun h1 h2 j hj => by
        rcases Nat.lt_or_ge j k with h3 | h3
        · exact HOK.out j h3
        · obtain rfl : j = k := by omega
          exact ⟨h1, h2⟩
      obtain ⟨pk, hpk⟩ : ∃ pk, sel5 pf pg pG pU pV k = pk := ⟨_, rfl⟩
      obtain ⟨Ak, hAk⟩ : ∃ Ak, sel5 A B AG AU AV k = Ak := ⟨_, rfl⟩
      obtain ⟨Fk, hFk⟩ : ∃ Fk, sel5 f g G U V k = Fk := ⟨_, rfl⟩
      obtain ⟨ck, hck⟩ : ∃ ck, sel5 c d cG cU cV k = ck := ⟨_, rfl⟩
      rw [hpk] at e0 hk2 HOKK HNX
      rw [hAk, hFk, hck] at e1
      rw [hAk, hFk] at hk1
      rw [hFk] at hk3 hk4 HOKK HNX
      have HWB := Lib.hid hw
      have HZ := Lib.hid hz
      have n0 : ∀ ob : Obj, (wr.alloc ob).cell? ⟨w.heap.size, 0, none⟩ = some (.int .u32 (pf : Int)) := fun ob => (((Below.refl wr.heap.size wr).alloc (Nat.le_refl _) ob).cell (p := ⟨w.heap.size, 0, none⟩) (by show w.heap.size < wr.heap.size; omega)).trans a0
      have hbA : ∀ ob : Obj, Below wr.heap.size wr (wr.alloc ob) := fun ob => (Below.refl _ _).alloc (Nat.le_refl _) _
      have HBA := Lib.hid hbA
      have HRI : Hid (∀ T : TypeId, Calls Tryd.prog 13 #[.agg #[.int .u32 (pk : Int), .slice Ak Fk.length ck]] (wr.alloc (.cells #[.int .u32 (pk : Int), .slice Ak Fk.length ck] T)) (ToldP pk Fk (wr.alloc (.cells #[.int .u32 (pk : Int), .slice Ak Fk.length ck] T)))) := Lib.hid fun T =>
        right_any pk Ak Fk ck _ (HT.out.up (hw.trans ((hbA _).mono hw.size))) (((hk1.below hw).more hw.size).up (hbA _)) hk2 hk3 (by omega)
      clear hr hw hz hbA hk1 hk2 hk3 hk4 hAk hFk hck hpk
      by_cases hpp : pk = pf
      · subst hpp
        by_cases hm : MayP pk Fk
        · have HR2 : Hid (∀ T : TypeId, Calls Tryd.prog 13 #[.agg #[.int .u32 (pk : Int), .slice Ak Fk.length ck]] (wr.alloc (.cells #[.int .u32 (pk : Int), .slice Ak Fk.length ck] T)) fun e w' => e = .returned (.bool true) ∧ Below wr.heap.size wr w') := Lib.hid fun T => (HRI.out T).mono fun e w' ⟨⟨b, h1, h2⟩, h3⟩ => ⟨by rw [h1, h2.2 hm], (HBA.out _).trans (h3.mono (HBA.out _).size)⟩
          have HM := Lib.hid hm
          clear hm HRI
          go_wp2_with (go_at_call 13; (with_reducible refine (HR2.out _).mono ?_); rintro e w2 ⟨rfl, hb2⟩; have HB2 := Lib.hid hb2; clear hb2)
          go_roundg gg
          case measure => omega
          case rel => exact ⟨k + 1, by omega, by go_num, HNX.out (by first | rfl | trivial) HM.out, HHB.out.up HB2.out⟩
        · have HR2 : Hid (∀ T : TypeId, Calls Tryd.prog 13 #[.agg #[.int .u32 (pk : Int), .slice Ak Fk.length ck]] (wr.alloc (.cells #[.int .u32 (pk : Int), .slice Ak Fk.length ck] T)) fun e w' => e = .returned (.bool false) ∧ Below wr.heap.size wr w') := Lib.hid fun T => (HRI.out T).mono fun e w' ⟨⟨b, h1, h2⟩, h3⟩ => ⟨by rw [h1]; cases b with | false => rfl | true => exact absurd (h2.1 rfl) hm, (HBA.out _).trans (h3.mono (HBA.out _).size)⟩
          have HM : Hid (¬ GP) := Lib.hid (by rw [← HGP.out]; exact fun h => hm (HOKK.out h).2)
          clear hm HRI
          go_wp2_with (go_at_call 13; (with_reducible refine (HR2.out _).mono ?_); rintro e w2 ⟨rfl, hb2⟩; have HB2 := Lib.hid hb2; clear hb2)
          go_ret
          exact toldG_no HM.out (HHB.out.up HB2.out).2.2.2.2.2
      · have hne : ((pk : Int) != (pf : Int)) = true := by rw [bne_iff_ne]; omega
        have HM : Hid (¬ GP) := Lib.hid (by rw [← HGP.out]; exact fun h => hpp (HOKK.out h).1)
        clear HRI hpp
        go_wp2
        go_ret
        exact toldG_no HM.out (HHB.out.up (HBA.out _)).2.2.2.2.2
    | zero =>
      have hge : ¬ (k : Int) < 5 := by omega
      obtain ⟨q0, m0⟩ := HOK.out 0 (by omega)
      obtain ⟨q1, m1⟩ := HOK.out 1 (by omega)
      obtain ⟨q2, m2⟩ := HOK.out 2 (by omega)
      obtain ⟨q3, m3⟩ := HOK.out 3 (by omega)
      obtain ⟨q4, m4⟩ := HOK.out 4 (by omega)
      simp only [sel5] at q1 q2 q3 q4 m0 m1 m2 m3 m4
      subst q1 q2 q3 q4
      have hpr : PrimeN pV := m0.1.prime
      have HPR := Lib.hid hpr
      have hp31 : pV ≤ 2147483647 := m0.1.2.1
      obtain ⟨⟨a0, a1⟩, ⟨b0, b1⟩, hs6, _, hz, hw⟩ := HHB.out
      have HWB := Lib.hid hw
      have HSX : Hid (∀ W : World, Below wr.heap.size wr W → Below wr.heap.size wr W ∧ (W.cell? ⟨w.heap.size, 0, none⟩ = some (.int .u32 (pV : Int)) ∧ W.cell? ⟨w.heap.size, 1, none⟩ = some (.slice A f.length c)) ∧ (W.cell? ⟨w.heap.size + 1, 0, none⟩ = some (.int .u32 (pV : Int)) ∧ W.cell? ⟨w.heap.size + 1, 1, none⟩ = some (.slice B g.length d)) ∧ W.cell? ⟨w.heap.size + 1 + 1, 0, none⟩ = some (.int .u32 (pV : Int)) ∧ W.cell? ⟨w.heap.size + 1 + 1, 1, none⟩ = some (.slice AG G.length cG) ∧ W.cell? ⟨w.heap.size + 1 + 1, 2, none⟩ = some (.int .u32 (pV : Int)) ∧ W.cell? ⟨w.heap.size + 1 + 1, 3, none⟩ = some (.slice AU U.length cU) ∧ W.cell? ⟨w.heap.size + 1 + 1, 4, none⟩ = some (.int .u32 (pV : Int)) ∧ W.cell? ⟨w.heap.size + 1 + 1, 5, none⟩ = some (.slice AV V.length cV)) := Lib.hid fun W hb =>
        ⟨hb, ⟨(hb.cell (p := ⟨w.heap.size, 0, none⟩) (by show w.heap.size < wr.heap.size; omega)).trans a0, (hb.cell (p := ⟨w.heap.size, 1, none⟩) (by show w.heap.size < wr.heap.size; omega)).trans a1⟩, ⟨(hb.cell (p := ⟨w.heap.size + 1, 0, none⟩) (by show w.heap.size + 1 < wr.heap.size; omega)).trans b0, (hb.cell (p := ⟨w.heap.size + 1, 1, none⟩) (by show w.heap.size + 1 < wr.heap.size; omega)).trans b1⟩, hs6.up hb (by omega)⟩
      have HDR : Hid (Below wr.heap.size wr wr.drew) := Lib.hid (Below.refl _ _).drew
      have hl := HL.out
      have HUP : Hid (∀ (W : World) (A : Option Addr) (xs : List Int), Below wr.heap.size wr W → KL .u32 w w.heap.size A xs → KL .u32 W W.heap.size A xs) := Lib.hid fun W A xs hb h => ((h.below (hw.trans (hb.mono hw.size))).more (Nat.le_trans hw.size hb.size))
      obtain ⟨v1, hv1⟩ : ∃ v, dvB pV G f = v := ⟨_, rfl⟩
      obtain ⟨v2, hv2⟩ : ∃ v, dvB pV G g = v := ⟨_, rfl⟩
      have HD1 : Hid (∀ W : World, Below wr.heap.size wr W → Calls Tryd.prog 77 #[.agg #[.int .u32 (pV : Int), .slice AG G.length cG], .agg #[.int .u32 (pV : Int), .slice A f.length c]] W fun e w' => e = .returned (.bool v1) ∧ Below wr.heap.size wr w') := Lib.hid fun W hb => by
        rw [← hv1]
        exact (divides_any pV AG A G f cG c W (HUP.out W _ _ hb HGG.out) (HUP.out W _ _ hb HA.out) hp31 hpr m2.2 m0.2 (by omega) (by omega)).mono fun e w' ⟨h1, h2⟩ => ⟨h1, hb.trans (h2.mono hb.size)⟩
      have HD2 : Hid (∀ W : World, Below wr.heap.size wr W → Calls Tryd.prog 77 #[.agg #[.int .u32 (pV : Int), .slice AG G.length cG], .agg #[.int .u32 (pV : Int), .slice B g.length d]] W fun e w' => e = .returned (.bool v2) ∧ Below wr.heap.size wr w') := Lib.hid fun W hb => by
        rw [← hv2]
        exact (divides_any pV AG B G g cG d W (HUP.out W _ _ hb HGG.out) (HUP.out W _ _ hb HBG.out) hp31 hpr m2.2 m1.2 (by omega) (by omega)).mono fun e w' ⟨h1, h2⟩ => ⟨h1, hb.trans (h2.mono hb.size)⟩
      have HM1 : Hid (∀ W : World, Below wr.heap.size wr W → Calls Tryd.prog 34 #[.agg #[.int .u32 (pV : Int), .slice AU U.length cU], .agg #[.int .u32 (pV : Int), .slice A f.length c]] W (PM pV (mulP pV U f) wr W)) := Lib.hid fun W hb => (mul_any pV AU A U f cU c W (HUP.out W _ _ hb HU.out) (HUP.out W _ _ hb HA.out) hp31 hpr.pos m3.2.1 m0.2.1 (by omega) (by omega) HC.out.1).mono (pm_of hb)
      have HM2 : Hid (∀ W : World, Below wr.heap.size wr W → Calls Tryd.prog 34 #[.agg #[.int .u32 (pV : Int), .slice AV V.length cV], .agg #[.int .u32 (pV : Int), .slice B g.length d]] W (PM pV (mulP pV V g) wr W)) := Lib.hid fun W hb => (mul_any pV AV B V g cV d W (HUP.out W _ _ hb HV.out) (HUP.out W _ _ hb HBG.out) hp31 hpr.pos m4.2.1 m1.2.1 (by omega) (by omega) HC.out.2).mono (pm_of hb)
      have HSU : Hid (∀ (W : World) (A1 A2 : Option Addr) (c1 c2 : Nat) (T : TypeId), Below wr.heap.size wr W → KF .u32 W wr.heap.size W.heap.size A1 (mulP pV U f) → KF .u32 W wr.heap.size W.heap.size A2 (mulP pV V g) →
          Calls Tryd.prog 78 #[.int .u32 (pV : Int), .slice (some ⟨W.heap.size, 0, none⟩) 2 2] (W.alloc (.cells #[.int .u32 (pV : Int), .slice A1 (mulP pV U f).length c1, .int .u32 (pV : Int), .slice A2 (mulP pV V g).length c2] T)) fun e w' => ∃ A c, e = .returned (.agg #[.int .u32 (pV : Int), .slice A (addP pV (mulP pV U f) (mulP pV V g)).length c]) ∧ KF .u32 w' wr.heap.size w'.heap.size A (addP pV (mulP pV U f) (mulP pV V g)) ∧ (addP pV (mulP pV U f) (mulP pV V g)).length ≤ c ∧ Below wr.heap.size wr w') := Lib.hid fun W A1 A2 c1 c2 T hb h1 h2 => by
        have ha : Below W.heap.size W (W.alloc (.cells #[.int .u32 (pV : Int), .slice A1 (mulP pV U f).length c1, .int .u32 (pV : Int), .slice A2 (mulP pV V g).length c2] T)) := (Below.refl _ _).alloc (Nat.le_refl _) _
        have l1 := cano_len pV (U.length + f.length - 1) (conv (co U) (co f))
        have l2 := cano_len pV (V.length + g.length - 1) (conv (co V) (co g))
        refine (sum_two pV ⟨W.heap.size, 0, none⟩ A1 A2 (mulP pV U f) (mulP pV V g) c1 c2 (fun k => if k = 0 then A1 else A2) (fun k => if k = 0 then mulP pV U f else mulP pV V g) (fun k => if k = 0 then c1 else c2) _ ⟨rfl, rfl, rfl⟩ ⟨rfl, rfl, rfl⟩ (by simp) ?_ (h1.kl.up ha) (h2.kl.up ha) hp31 hpr.pos (mulP_pol hpr.pos) (mulP_pol hpr.pos) (by show (cano pV _ _).length ≤ _; omega) (by show (cano pV _ _).length ≤ _; omega)).mono ?_
        · intro k hk
          match k, hk with
          | 0, _ => exact ⟨by go_cell, by (simp only [Addr.add]; go_cell)⟩
          | 1, _ => exact ⟨by (simp only [Addr.add]; go_cell), by (simp only [Addr.add]; go_cell)⟩
        · rintro e w' ⟨A, c, rfl, h3, h4, h5⟩
          have hb2 := hb.trans (ha.mono hb.size)
          exact ⟨A, c, rfl, h3.less hb2.size (Nat.le_refl _), h4, hb2.trans (h5.mono hb2.size)⟩
      have HEQ : Hid (∀ (W : World) (A : Option Addr) (c : Nat), Below wr.heap.size wr W → KF .u32 W wr.heap.size W.heap.size A (addP pV (mulP pV U f) (mulP pV V g)) → Calls Tryd.prog 15 #[.agg #[.int .u32 (pV : Int), .slice AG G.length cG], .agg #[.int .u32 (pV : Int), .slice A (addP pV (mulP pV U f) (mulP pV V g)).length c]] W fun e w' => e = .returned (.bool (eqP pV pV G (addP pV (mulP pV U f) (mulP pV V g)))) ∧ Below wr.heap.size wr w') := Lib.hid fun W A c hb hA => by
        have l1 := cano_len pV (U.length + f.length - 1) (conv (co U) (co f))
        have l2 := cano_len pV (V.length + g.length - 1) (conv (co V) (co g))
        have l3 := addP_len (p := pV) (xs := mulP pV U f) (ys := mulP pV V g)
        have l4 : (mulP pV U f).length ≤ U.length + f.length - 1 := l1
        have l5 : (mulP pV V g).length ≤ V.length + g.length - 1 := l2
        exact (same_any pV pV AG A G _ cG c W (HUP.out W _ _ hb HGG.out) hA.kl (m2.2.1.w (by omega)) ((addP_pol hpr.pos).1.w (by omega)) (by omega) (by omega)).mono fun e w' ⟨h1, h2⟩ => ⟨h1, hb.trans (h2.mono hb.size)⟩
      have HG : Hid (∀ b3, eqP pV pV G (addP pV (mulP pV U f) (mulP pV V g)) = b3 → (G = [] ∨ Monic G) → ((v1 && (v2 && b3)) = true ↔ GP)) := Lib.hid fun b3 hb3 hmon => by
        rw [← HGP.out]
        have h1 := dvB_iff hpr m0.2 m2.2
        have h2 := dvB_iff hpr m1.2 m2.2
        rw [hv1] at h1
        rw [hv2] at h2
        simp only [Bool.and_eq_true]
        constructor
        · rintro ⟨x1, x2, x3⟩
          rw [← hb3] at x3
          exact GcdP.of (fun j hj => HOK.out j (by omega)) ⟨m2.2, m3.2, m4.2, h1.1 x1, h2.1 x2, (of_decide_eq_true x3).2, hmon⟩
        · intro hG
          have hi := hG.2.2
          exact ⟨h1.2 hi.left, h2.2 hi.right, by rw [← hb3]; exact decide_eq_true ⟨rfl, hi.sum⟩⟩
      have HNM : Hid (¬ (G = [] ∨ Monic G) → ¬ GP) := Lib.hid fun hn h => hn (by rw [← HGP.out] at h; exact h.2.2.monic)
      obtain ⟨p1, hm1⟩ : ∃ m1, mulP pV U f = m1 := ⟨_, rfl⟩
      obtain ⟨p2, hm2⟩ : ∃ m2, mulP pV V g = m2 := ⟨_, rfl⟩
      rw [hm1] at HM1 HSU HEQ HG
      rw [hm2] at HM2 HSU HEQ HG
      obtain ⟨sm, hsm⟩ : ∃ sm, addP pV p1 p2 = sm := ⟨_, rfl⟩
      rw [hsm] at HSU HEQ HG
      obtain ⟨v3, hv3⟩ : ∃ v3, eqP pV pV G sm = v3 := ⟨_, rfl⟩
      rw [hv3] at HEQ
      have HV3 := Lib.hid hv3
      have y0 := hs6.1
      have y1 := hs6.2.1
      have HGA := Lib.hid (HUP.out wr AG G (Below.refl _ _) HGG.out)
      have hGl : G.length ≤ 1000000 := hl.2.2.1
      clear hm1 hm2 hsm hv3 hv1 hv2 hs6 hz hw hl m0 m1 m2 m3 m4 hpr
      have hG3 : (G = [] ∧ Hid (G = [] ∨ Monic G)) ∨ (∃ (m : Nat) (z : Int), G.length = m + 1 ∧ G.getD m 0 = z ∧ ((z = 1 ∧ Hid (G = [] ∨ Monic G)) ∨ (z ≠ 1 ∧ Hid (¬ GP)))) := by
        by_cases hn : G = []
        · exact .inl ⟨hn, Lib.hid (.inl hn)⟩
        · have hlen := List.length_pos_iff.2 hn
          refine .inr ⟨G.length - 1, lead G, by omega, rfl, ?_⟩
          by_cases h1 : lead G = 1
          · exact .inl ⟨h1, Lib.hid (.inr ⟨hn, h1⟩)⟩
          · exact .inr ⟨h1, Lib.hid (HNM.out fun h => h.elim hn fun h2 => h1 h2.2)⟩
      clear HNM
      rcases hG3 with ⟨hnil, HMO⟩ | ⟨m, z, hgl, hgz, hz1⟩
      · have i0 : decide ((0 : Int) < (G.length : Int)) = false := by rw [hnil]; rfl
        have i0n : decide (0 < G.length) = false := by rw [hnil]; rfl
        clear hnil
        cases v1 with
        | false =>
          go_upto_region 9 with (fail)
          refine wp_region_noPanic ?_
          refine wp_region_tail (fun (_ : Array Bool) (W : World) => Below wr.heap.size wr W ∧ (W.cell? ⟨w.heap.size, 0, none⟩ = some (.int .u32 (pV : Int)) ∧ W.cell? ⟨w.heap.size, 1, none⟩ = some (.slice A f.length c)) ∧ (W.cell? ⟨w.heap.size + 1, 0, none⟩ = some (.int .u32 (pV : Int)) ∧ W.cell? ⟨w.heap.size + 1, 1, none⟩ = some (.slice B g.length d)) ∧ W.cell? ⟨w.heap.size + 1 + 1, 0, none⟩ = some (.int .u32 (pV : Int)) ∧ W.cell? ⟨w.heap.size + 1 + 1, 1, none⟩ = some (.slice AG G.length cG) ∧ W.cell? ⟨w.heap.size + 1 + 1, 2, none⟩ = some (.int .u32 (pV : Int)) ∧ W.cell? ⟨w.heap.size + 1 + 1, 3, none⟩ = some (.slice AU U.length cU) ∧ W.cell? ⟨w.heap.size + 1 + 1, 4, none⟩ = some (.int .u32 (pV : Int)) ∧ W.cell? ⟨w.heap.size + 1 + 1, 5, none⟩ = some (.slice AV V.length cV)) (by kernel_rfl) (HSX.out _ HDR.out) (fun hT => ?_)
          refine wpAnyT_take _ [] (i := 0) (oi := _) (v := ?_) (fun _ _ => Iff.rfl) (fun _ _ _ h => h) rfl (by kernel_rfl) (by kernel_rfl) (by kernel_rfl) (by kernel_rfl) (by kernel_rfl) (fun _ _ _ h => h) (by assumption) (Or.inl ⟨by kernel_rfl, ?_⟩) (fun hT => ?_)
          rotate_left 1
          · intro w hSw
            (try dsimp only at hSw)
            first | (go_simp; done) | (go_simp; with_reducible rfl)
          (try simp only [Act.put, List.getElem_toArray, List.getElem_cons_zero, List.setIfInBounds_toArray, List.set_cons_zero, List.set_cons_succ])
          refine wpAnyT_take _ [] (i := 1) (oi := _) (v := ?_) (fun _ _ => Iff.rfl) (fun _ _ _ h => h) rfl (by kernel_rfl) (by kernel_rfl) (by kernel_rfl) (by kernel_rfl) (by kernel_rfl) (fun _ _ _ h => h) (by assumption) (Or.inl ⟨by kernel_rfl, ?_⟩) (fun hT => ?_)
          rotate_left 1
          · intro w hSw
            (try dsimp only at hSw)
            first | (go_simp; done) | (go_simp; with_reducible rfl)
          (try simp only [Act.put, List.getElem_toArray, List.getElem_cons_succ, List.getElem_cons_zero, List.setIfInBounds_toArray, List.set_cons_zero, List.set_cons_succ])
          refine wpAnyT_take _ [] (i := 2) (oi := _) (v := ?_) (fun _ _ => Iff.rfl) (fun _ _ _ h => h) rfl (by kernel_rfl) (by kernel_rfl) (by kernel_rfl) (by kernel_rfl) (by kernel_rfl) (fun _ _ _ h => h) (by assumption) (Or.inl ⟨by kernel_rfl, ?_⟩) (fun hT => ?_)
          rotate_left 1
          · intro w hSw
            (try dsimp only at hSw)
            first | (go_simp; done) | (go_simp; with_reducible rfl)
          (try simp only [Act.put, List.getElem_toArray, List.getElem_cons_succ, List.getElem_cons_zero, List.setIfInBounds_toArray, List.set_cons_zero, List.set_cons_succ])
          refine wpAnyT_one (i := 3) (by kernel_rfl) (oi := _) rfl (fun K hK => ?_)
          (try dsimp only [List.getElem_toArray, List.getElem_cons_succ, List.getElem_cons_zero])
          go_simp
          go_at_call 77
          (with_reducible refine (HD1.out _ HDR.out).mono ?_)
          rintro e w3 ⟨rfl, hb3⟩
          go_wp2_with (fail)
          refine hK.out _ _ (HSX.out _ hb3) (fun hT => ?_)
          clear hK K
          (try simp only [Act.put, List.getElem_toArray, List.getElem_cons_succ, List.getElem_cons_zero, List.setIfInBounds_toArray, List.set_cons_zero, List.set_cons_succ])
          refine wpAnyT_take _ [] (i := 4) (oi := _) (v := ?_) (fun _ _ => Iff.rfl) (fun _ _ _ h => h) rfl (by kernel_rfl) (by kernel_rfl) (by kernel_rfl) (by kernel_rfl) (by kernel_rfl) (fun _ _ _ h => h) (by assumption) (Or.inl ⟨by kernel_rfl, ?_⟩) (fun hT => ?_)
          rotate_left 1
          · intro w hSw
            (try dsimp only at hSw)
            first | (go_simp; done) | (go_simp; with_reducible rfl)
          (try simp only [Act.put, List.getElem_toArray, List.getElem_cons_succ, List.getElem_cons_zero, List.setIfInBounds_toArray, List.set_cons_zero, List.set_cons_succ])
          refine wpAnyT_take _ [] (i := 5) (oi := _) (v := undef) (fun _ _ => Iff.rfl) (fun _ _ _ h => h) rfl (by kernel_rfl) (by kernel_rfl) (by kernel_rfl) (by kernel_rfl) (by kernel_rfl) (fun _ _ _ h => h) (by assumption) (Or.inr ⟨by kernel_rfl, rfl⟩) (fun hT => ?_)
          (try simp only [Act.put, List.getElem_toArray, List.getElem_cons_succ, List.getElem_cons_zero, List.setIfInBounds_toArray, List.set_cons_zero, List.set_cons_succ])
          refine wpAnyT_take _ [] (i := 6) (oi := _) (v := undef) (fun _ _ => Iff.rfl) (fun _ _ _ h => h) rfl (by kernel_rfl) (by kernel_rfl) (by kernel_rfl) (by kernel_rfl) (by kernel_rfl) (fun _ _ _ h => h) (by assumption) (Or.inr ⟨by kernel_rfl, rfl⟩) (fun hT => ?_)
          (try simp only [Act.put, List.getElem_toArray, List.getElem_cons_succ, List.getElem_cons_zero, List.setIfInBounds_toArray, List.set_cons_zero, List.set_cons_succ])
          refine wpAnyT_take _ [] (i := 7) (oi := _) (v := undef) (fun _ _ => Iff.rfl) (fun _ _ _ h => h) rfl (by kernel_rfl) (by kernel_rfl) (by kernel_rfl) (by kernel_rfl) (by kernel_rfl) (fun _ _ _ h => h) (by assumption) (Or.inr ⟨by kernel_rfl, rfl⟩) (fun hT => ?_)
          (try simp only [Act.put, List.getElem_toArray, List.getElem_cons_succ, List.getElem_cons_zero, List.setIfInBounds_toArray, List.set_cons_zero, List.set_cons_succ])
          refine wpAnyT_take _ [] (i := 8) (oi := _) (v := undef) (fun _ _ => Iff.rfl) (fun _ _ _ h => h) rfl (by kernel_rfl) (by kernel_rfl) (by kernel_rfl) (by kernel_rfl) (by kernel_rfl) (fun _ _ _ h => h) (by assumption) (Or.inr ⟨by kernel_rfl, rfl⟩) (fun hT => ?_)
          (try simp only [Act.put, List.getElem_toArray, List.getElem_cons_succ, List.getElem_cons_zero, List.setIfInBounds_toArray, List.set_cons_zero, List.set_cons_succ])
          refine wpAnyT_take _ [] (i := 9) (oi := _) (v := ?_) (fun _ _ => Iff.rfl) (fun _ _ _ h => h) rfl (by kernel_rfl) (by kernel_rfl) (by kernel_rfl) (by kernel_rfl) (by kernel_rfl) (fun _ _ _ h => h) (by assumption) (Or.inl ⟨by kernel_rfl, ?_⟩) (fun hT => ?_)
          rotate_left 1
          · intro w hSw
            (try dsimp only at hSw)
            first | (go_simp; done) | (go_simp; with_reducible rfl)
          (try simp only [Act.put, List.getElem_toArray, List.getElem_cons_succ, List.getElem_cons_zero, List.setIfInBounds_toArray, List.set_cons_zero, List.set_cons_succ])
          refine wpAnyT_take _ [] (i := 10) (oi := _) (v := ?_) (fun _ _ => Iff.rfl) (fun _ _ _ h => h) rfl (by kernel_rfl) (by kernel_rfl) (by kernel_rfl) (by kernel_rfl) (by kernel_rfl) (fun _ _ _ h => h) (by assumption) (Or.inl ⟨by kernel_rfl, ?_⟩) (fun hT => ?_)
          rotate_left 1
          · intro w hSw
            (try dsimp only at hSw)
            first | (go_simp; done) | (go_simp; with_reducible rfl)
          (try simp only [Act.put, List.getElem_toArray, List.getElem_cons_succ, List.getElem_cons_zero, List.setIfInBounds_toArray, List.set_cons_zero, List.set_cons_succ])
          refine wpAnyT_take _ [] (i := 11) (oi := _) (v := undef) (fun _ _ => Iff.rfl) (fun _ _ _ h => h) rfl (by kernel_rfl) (by kernel_rfl) (by kernel_rfl) (by kernel_rfl) (by kernel_rfl) (fun _ _ _ h => h) (by assumption) (Or.inr ⟨by kernel_rfl, rfl⟩) (fun hT => ?_)
          (try simp only [Act.put, List.getElem_toArray, List.getElem_cons_succ, List.getElem_cons_zero, List.setIfInBounds_toArray, List.set_cons_zero, List.set_cons_succ])
          refine wpAnyT_take _ [] (i := 12) (oi := _) (v := undef) (fun _ _ => Iff.rfl) (fun _ _ _ h => h) rfl (by kernel_rfl) (by kernel_rfl) (by kernel_rfl) (by kernel_rfl) (by kernel_rfl) (fun _ _ _ h => h) (by assumption) (Or.inr ⟨by kernel_rfl, rfl⟩) (fun hT => ?_)
          (try simp only [Act.put, List.getElem_toArray, List.getElem_cons_succ, List.getElem_cons_zero, List.setIfInBounds_toArray, List.set_cons_zero, List.set_cons_succ])
          refine wpAnyT_take _ [] (i := 13) (oi := _) (v := undef) (fun _ _ => Iff.rfl) (fun _ _ _ h => h) rfl (by kernel_rfl) (by kernel_rfl) (by kernel_rfl) (by kernel_rfl) (by kernel_rfl) (fun _ _ _ h => h) (by assumption) (Or.inr ⟨by kernel_rfl, rfl⟩) (fun hT => ?_)
          (try simp only [Act.put, List.getElem_toArray, List.getElem_cons_succ, List.getElem_cons_zero, List.setIfInBounds_toArray, List.set_cons_zero, List.set_cons_succ])
          refine wpAnyT_take _ [] (i := 14) (oi := _) (v := undef) (fun _ _ => Iff.rfl) (fun _ _ _ h => h) rfl (by kernel_rfl) (by kernel_rfl) (by kernel_rfl) (by kernel_rfl) (by kernel_rfl) (fun _ _ _ h => h) (by assumption) (Or.inr ⟨by kernel_rfl, rfl⟩) (fun hT => ?_)
          (try simp only [Act.put, List.getElem_toArray, List.getElem_cons_succ, List.getElem_cons_zero, List.setIfInBounds_toArray, List.set_cons_zero, List.set_cons_succ])
          refine wpAnyT_take _ [] (i := 15) (oi := _) (v := undef) (fun _ _ => Iff.rfl) (fun _ _ _ h => h) rfl (by kernel_rfl) (by kernel_rfl) (by kernel_rfl) (by kernel_rfl) (by kernel_rfl) (fun _ _ _ h => h) (by assumption) (Or.inr ⟨by kernel_rfl, rfl⟩) (fun hT => ?_)
          (try simp only [Act.put, List.getElem_toArray, List.getElem_cons_succ, List.getElem_cons_zero, List.setIfInBounds_toArray, List.set_cons_zero, List.set_cons_succ])
          refine wpAnyT_take _ [] (i := 16) (oi := _) (v := undef) (fun _ _ => Iff.rfl) (fun _ _ _ h => h) rfl (by kernel_rfl) (by kernel_rfl) (by kernel_rfl) (by kernel_rfl) (by kernel_rfl) (fun _ _ _ h => h) (by assumption) (Or.inr ⟨by kernel_rfl, rfl⟩) (fun hT => ?_)
          (try simp only [Act.put, List.getElem_toArray, List.getElem_cons_succ, List.getElem_cons_zero, List.setIfInBounds_toArray, List.set_cons_zero, List.set_cons_succ])
          refine wpAnyT_take _ [] (i := 17) (oi := _) (v := undef) (fun _ _ => Iff.rfl) (fun _ _ _ h => h) rfl (by kernel_rfl) (by kernel_rfl) (by kernel_rfl) (by kernel_rfl) (by kernel_rfl) (fun _ _ _ h => h) (by assumption) (Or.inr ⟨by kernel_rfl, rfl⟩) (fun hT => ?_)
          (try simp only [Act.put, List.getElem_toArray, List.getElem_cons_succ, List.getElem_cons_zero, List.setIfInBounds_toArray, List.set_cons_zero, List.set_cons_succ])
          refine wpAnyT_take _ [] (i := 18) (oi := _) (v := undef) (fun _ _ => Iff.rfl) (fun _ _ _ h => h) rfl (by kernel_rfl) (by kernel_rfl) (by kernel_rfl) (by kernel_rfl) (by kernel_rfl) (fun _ _ _ h => h) (by assumption) (Or.inr ⟨by kernel_rfl, rfl⟩) (fun hT => ?_)
          (try simp only [Act.put, List.getElem_toArray, List.getElem_cons_succ, List.getElem_cons_zero, List.setIfInBounds_toArray, List.set_cons_zero, List.set_cons_succ])
          refine wpAnyT_take _ [] (i := 19) (oi := _) (v := undef) (fun _ _ => Iff.rfl) (fun _ _ _ h => h) rfl (by kernel_rfl) (by kernel_rfl) (by kernel_rfl) (by kernel_rfl) (by kernel_rfl) (fun _ _ _ h => h) (by assumption) (Or.inr ⟨by kernel_rfl, rfl⟩) (fun hT => ?_)
          (try simp only [Act.put, List.getElem_toArray, List.getElem_cons_succ, List.getElem_cons_zero, List.setIfInBounds_toArray, List.set_cons_zero, List.set_cons_succ])
          refine wpAnyT_take _ [] (i := 20) (oi := _) (v := undef) (fun _ _ => Iff.rfl) (fun _ _ _ h => h) rfl (by kernel_rfl) (by kernel_rfl) (by kernel_rfl) (by kernel_rfl) (by kernel_rfl) (fun _ _ _ h => h) (by assumption) (Or.inr ⟨by kernel_rfl, rfl⟩) (fun hT => ?_)
          (try simp only [Act.put, List.getElem_toArray, List.getElem_cons_succ, List.getElem_cons_zero, List.setIfInBounds_toArray, List.set_cons_zero, List.set_cons_succ])
          refine wpAnyT_take _ [] (i := 21) (oi := _) (v := undef) (fun _ _ => Iff.rfl) (fun _ _ _ h => h) rfl (by kernel_rfl) (by kernel_rfl) (by kernel_rfl) (by kernel_rfl) (by kernel_rfl) (fun _ _ _ h => h) (by assumption) (Or.inr ⟨by kernel_rfl, rfl⟩) (fun hT => ?_)
          (try simp only [Act.put, List.getElem_toArray, List.getElem_cons_succ, List.getElem_cons_zero, List.setIfInBounds_toArray, List.set_cons_zero, List.set_cons_succ])
          refine wpAnyT_take _ [] (i := 22) (oi := _) (v := undef) (fun _ _ => Iff.rfl) (fun _ _ _ h => h) rfl (by kernel_rfl) (by kernel_rfl) (by kernel_rfl) (by kernel_rfl) (by kernel_rfl) (fun _ _ _ h => h) (by assumption) (Or.inr ⟨by kernel_rfl, rfl⟩) (fun hT => ?_)
          (try simp only [Act.put, List.getElem_toArray, List.getElem_cons_succ, List.getElem_cons_zero, List.setIfInBounds_toArray, List.set_cons_zero, List.set_cons_succ])
          refine wpAnyT_take _ [] (i := 23) (oi := _) (v := undef) (fun _ _ => Iff.rfl) (fun _ _ _ h => h) rfl (by kernel_rfl) (by kernel_rfl) (by kernel_rfl) (by kernel_rfl) (by kernel_rfl) (fun _ _ _ h => h) (by assumption) (Or.inr ⟨by kernel_rfl, rfl⟩) (fun hT => ?_)
          (try simp only [Act.put, List.getElem_toArray, List.getElem_cons_succ, List.getElem_cons_zero, List.setIfInBounds_toArray, List.set_cons_zero, List.set_cons_succ])
          refine wpAnyT_take _ [] (i := 24) (oi := _) (v := undef) (fun _ _ => Iff.rfl) (fun _ _ _ h => h) rfl (by kernel_rfl) (by kernel_rfl) (by kernel_rfl) (by kernel_rfl) (by kernel_rfl) (fun _ _ _ h => h) (by assumption) (Or.inr ⟨by kernel_rfl, rfl⟩) (fun hT => ?_)
          (try simp only [Act.put, List.getElem_toArray, List.getElem_cons_succ, List.getElem_cons_zero, List.setIfInBounds_toArray, List.set_cons_zero, List.set_cons_succ])
          refine wpAnyT_take _ [] (i := 25) (oi := _) (v := undef) (fun _ _ => Iff.rfl) (fun _ _ _ h => h) rfl (by kernel_rfl) (by kernel_rfl) (by kernel_rfl) (by kernel_rfl) (by kernel_rfl) (fun _ _ _ h => h) (by assumption) (Or.inr ⟨by kernel_rfl, rfl⟩) (fun hT => ?_)
          (try simp only [Act.put, List.getElem_toArray, List.getElem_cons_succ, List.getElem_cons_zero, List.setIfInBounds_toArray, List.set_cons_zero, List.set_cons_succ])
          refine wpAnyT_take _ [] (i := 26) (oi := _) (v := ?_) (fun _ _ => Iff.rfl) (fun _ _ _ h => h) rfl (by kernel_rfl) (by kernel_rfl) (by kernel_rfl) (by kernel_rfl) (by kernel_rfl) (fun _ _ _ h => h) (by assumption) (Or.inl ⟨by kernel_rfl, ?_⟩) (fun hT => ?_)
          rotate_left 1
          · intro w hSw
            (try dsimp only at hSw)
            first | (go_simp; done) | (go_simp; with_reducible rfl)
          (try simp only [Act.put, List.getElem_toArray, List.getElem_cons_succ, List.getElem_cons_zero, List.setIfInBounds_toArray, List.set_cons_zero, List.set_cons_succ])
          refine wpAnyT_take _ [] (i := 27) (oi := _) (v := ?_) (fun _ _ => Iff.rfl) (fun _ _ _ h => h) rfl (by kernel_rfl) (by kernel_rfl) (by kernel_rfl) (by kernel_rfl) (by kernel_rfl) (fun _ _ _ h => h) (by assumption) (Or.inl ⟨by kernel_rfl, ?_⟩) (fun hT => ?_)
          rotate_left 1
          · intro w hSw
            (try dsimp only at hSw)
            first | (go_simp; done) | (go_simp; with_reducible rfl)
          (try simp only [Act.put, List.getElem_toArray, List.getElem_cons_succ, List.getElem_cons_zero, List.setIfInBounds_toArray, List.set_cons_zero, List.set_cons_succ])
          refine wpAnyT_done (by kernel_rfl) ?_ _
          refine NoPanic.normal ?_
          go_wp2
          go_ret
          exact ⟨⟨_, rfl, HG.out _ HV3.out HMO.out⟩, HWB.out.trans (hb3.mono HWB.out.size)⟩
        | true =>
          cases v2 with
          | false =>
            go_upto_region 9 with (fail)
            refine wp_region_noPanic ?_
            refine wp_region_tail (fun (_ : Array Bool) (W : World) => Below wr.heap.size wr W ∧ (W.cell? ⟨w.heap.size, 0, none⟩ = some (.int .u32 (pV : Int)) ∧ W.cell? ⟨w.heap.size, 1, none⟩ = some (.slice A f.length c)) ∧ (W.cell? ⟨w.heap.size + 1, 0, none⟩ = some (.int .u32 (pV : Int)) ∧ W.cell? ⟨w.heap.size + 1, 1, none⟩ = some (.slice B g.length d)) ∧ W.cell? ⟨w.heap.size + 1 + 1, 0, none⟩ = some (.int .u32 (pV : Int)) ∧ W.cell? ⟨w.heap.size + 1 + 1, 1, none⟩ = some (.slice AG G.length cG) ∧ W.cell? ⟨w.heap.size + 1 + 1, 2, none⟩ = some (.int .u32 (pV : Int)) ∧ W.cell? ⟨w.heap.size + 1 + 1, 3, none⟩ = some (.slice AU U.length cU) ∧ W.cell? ⟨w.heap.size + 1 + 1, 4, none⟩ = some (.int .u32 (pV : Int)) ∧ W.cell? ⟨w.heap.size + 1 + 1, 5, none⟩ = some (.slice AV V.length cV)) (by kernel_rfl) (HSX.out _ HDR.out) (fun hT => ?_)
            refine wpAnyT_take _ [] (i := 0) (oi := _) (v := ?_) (fun _ _ => Iff.rfl) (fun _ _ _ h => h) rfl (by kernel_rfl) (by kernel_rfl) (by kernel_rfl) (by kernel_rfl) (by kernel_rfl) (fun _ _ _ h => h) (by assumption) (Or.inl ⟨by kernel_rfl, ?_⟩) (fun hT => ?_)
            rotate_left 1
            · intro w hSw
              (try dsimp only at hSw)
              first | (go_simp; done) | (go_simp; with_reducible rfl)
            (try simp only [Act.put, List.getElem_toArray, List.getElem_cons_zero, List.setIfInBounds_toArray, List.set_cons_zero, List.set_cons_succ])
            refine wpAnyT_take _ [] (i := 1) (oi := _) (v := ?_) (fun _ _ => Iff.rfl) (fun _ _ _ h => h) rfl (by kernel_rfl) (by kernel_rfl) (by kernel_rfl) (by kernel_rfl) (by kernel_rfl) (fun _ _ _ h => h) (by assumption) (Or.inl ⟨by kernel_rfl, ?_⟩) (fun hT => ?_)
            rotate_left 1
            · intro w hSw
              (try dsimp only at hSw)
              first | (go_simp; done) | (go_simp; with_reducible rfl)
            (try simp only [Act.put, List.getElem_toArray, List.getElem_cons_succ, List.getElem_cons_zero, List.setIfInBounds_toArray, List.set_cons_zero, List.set_cons_succ])
            refine wpAnyT_take _ [] (i := 2) (oi := _) (v := ?_) (fun _ _ => Iff.rfl) (fun _ _ _ h => h) rfl (by kernel_rfl) (by kernel_rfl) (by kernel_rfl) (by kernel_rfl) (by kernel_rfl) (fun _ _ _ h => h) (by assumption) (Or.inl ⟨by kernel_rfl, ?_⟩) (fun hT => ?_)
            rotate_left 1
            · intro w hSw
              (try dsimp only at hSw)
              first | (go_simp; done) | (go_simp; with_reducible rfl)
            (try simp only [Act.put, List.getElem_toArray, List.getElem_cons_succ, List.getElem_cons_zero, List.setIfInBounds_toArray, List.set_cons_zero, List.set_cons_succ])
            refine wpAnyT_one (i := 3) (by kernel_rfl) (oi := _) rfl (fun K hK => ?_)
            (try dsimp only [List.getElem_toArray, List.getElem_cons_succ, List.getElem_cons_zero])
            go_simp
            go_at_call 77
            (with_reducible refine (HD1.out _ HDR.out).mono ?_)
            rintro e w3 ⟨rfl, hb3⟩
            go_wp2_with (fail)
            refine hK.out _ _ (HSX.out _ hb3) (fun hT => ?_)
            clear hK K
            (try simp only [Act.put, List.getElem_toArray, List.getElem_cons_succ, List.getElem_cons_zero, List.setIfInBounds_toArray, List.set_cons_zero, List.set_cons_succ])
            refine wpAnyT_take _ [] (i := 4) (oi := _) (v := ?_) (fun _ _ => Iff.rfl) (fun _ _ _ h => h) rfl (by kernel_rfl) (by kernel_rfl) (by kernel_rfl) (by kernel_rfl) (by kernel_rfl) (fun _ _ _ h => h) (by assumption) (Or.inl ⟨by kernel_rfl, ?_⟩) (fun hT => ?_)
            rotate_left 1
            · intro w hSw
              (try dsimp only at hSw)
              first | (go_simp; done) | (go_simp; with_reducible rfl)
            (try simp only [Act.put, List.getElem_toArray, List.getElem_cons_succ, List.getElem_cons_zero, List.setIfInBounds_toArray, List.set_cons_zero, List.set_cons_succ])
            refine wpAnyT_take _ [] (i := 5) (oi := _) (v := ?_) (fun _ _ => Iff.rfl) (fun _ _ _ h => h) rfl (by kernel_rfl) (by kernel_rfl) (by kernel_rfl) (by kernel_rfl) (by kernel_rfl) (fun _ _ _ h => h) (by assumption) (Or.inl ⟨by kernel_rfl, ?_⟩) (fun hT => ?_)
            rotate_left 1
            · intro w hSw
              (try dsimp only at hSw)
              first | (go_simp; done) | (go_simp; with_reducible rfl)
            (try simp only [Act.put, List.getElem_toArray, List.getElem_cons_succ, List.getElem_cons_zero, List.setIfInBounds_toArray, List.set_cons_zero, List.set_cons_succ])
            refine wpAnyT_take _ [] (i := 6) (oi := _) (v := ?_) (fun _ _ => Iff.rfl) (fun _ _ _ h => h) rfl (by kernel_rfl) (by kernel_rfl) (by kernel_rfl) (by kernel_rfl) (by kernel_rfl) (fun _ _ _ h => h) (by assumption) (Or.inl ⟨by kernel_rfl, ?_⟩) (fun hT => ?_)
            rotate_left 1
            · intro w hSw
              (try dsimp only at hSw)
              first | (go_simp; done) | (go_simp; with_reducible rfl)
            (try simp only [Act.put, List.getElem_toArray, List.getElem_cons_succ, List.getElem_cons_zero, List.setIfInBounds_toArray, List.set_cons_zero, List.set_cons_succ])
            refine wpAnyT_take _ [] (i := 7) (oi := _) (v := ?_) (fun _ _ => Iff.rfl) (fun _ _ _ h => h) rfl (by kernel_rfl) (by kernel_rfl) (by kernel_rfl) (by kernel_rfl) (by kernel_rfl) (fun _ _ _ h => h) (by assumption) (Or.inl ⟨by kernel_rfl, ?_⟩) (fun hT => ?_)
            rotate_left 1
            · intro w hSw
              (try dsimp only at hSw)
              first | (go_simp; done) | (go_simp; with_reducible rfl)
            (try simp only [Act.put, List.getElem_toArray, List.getElem_cons_succ, List.getElem_cons_zero, List.setIfInBounds_toArray, List.set_cons_zero, List.set_cons_succ])
            refine wpAnyT_one (i := 8) (by kernel_rfl) (oi := _) rfl (fun K hK => ?_)
            (try dsimp only [List.getElem_toArray, List.getElem_cons_succ, List.getElem_cons_zero])
            go_simp
            go_at_call 77
            (with_reducible refine (HD2.out _ hb3).mono ?_)
            rintro e w4 ⟨rfl, hb4⟩
            go_wp2_with (fail)
            refine hK.out _ _ (HSX.out _ hb4) (fun hT => ?_)
            clear hK K
            (try simp only [Act.put, List.getElem_toArray, List.getElem_cons_succ, List.getElem_cons_zero, List.setIfInBounds_toArray, List.set_cons_zero, List.set_cons_succ])
            refine wpAnyT_take _ [] (i := 9) (oi := _) (v := ?_) (fun _ _ => Iff.rfl) (fun _ _ _ h => h) rfl (by kernel_rfl) (by kernel_rfl) (by kernel_rfl) (by kernel_rfl) (by kernel_rfl) (fun _ _ _ h => h) (by assumption) (Or.inl ⟨by kernel_rfl, ?_⟩) (fun hT => ?_)
            rotate_left 1
            · intro w hSw
              (try dsimp only at hSw)
              first | (go_simp; done) | (go_simp; with_reducible rfl)
            (try simp only [Act.put, List.getElem_toArray, List.getElem_cons_succ, List.getElem_cons_zero, List.setIfInBounds_toArray, List.set_cons_zero, List.set_cons_succ])
            refine wpAnyT_take _ [] (i := 10) (oi := _) (v := ?_) (fun _ _ => Iff.rfl) (fun _ _ _ h => h) rfl (by kernel_rfl) (by kernel_rfl) (by kernel_rfl) (by kernel_rfl) (by kernel_rfl) (fun _ _ _ h => h) (by assumption) (Or.inl ⟨by kernel_rfl, ?_⟩) (fun hT => ?_)
            rotate_left 1
            · intro w hSw
              (try dsimp only at hSw)
              first | (go_simp; done) | (go_simp; with_reducible rfl)
            (try simp only [Act.put, List.getElem_toArray, List.getElem_cons_succ, List.getElem_cons_zero, List.setIfInBounds_toArray, List.set_cons_zero, List.set_cons_succ])
            refine wpAnyT_take _ [] (i := 11) (oi := _) (v := undef) (fun _ _ => Iff.rfl) (fun _ _ _ h => h) rfl (by kernel_rfl) (by kernel_rfl) (by kernel_rfl) (by kernel_rfl) (by kernel_rfl) (fun _ _ _ h => h) (by assumption) (Or.inr ⟨by kernel_rfl, rfl⟩) (fun hT => ?_)
            (try simp only [Act.put, List.getElem_toArray, List.getElem_cons_succ, List.getElem_cons_zero, List.setIfInBounds_toArray, List.set_cons_zero, List.set_cons_succ])
            refine wpAnyT_take _ [] (i := 12) (oi := _) (v := undef) (fun _ _ => Iff.rfl) (fun _ _ _ h => h) rfl (by kernel_rfl) (by kernel_rfl) (by kernel_rfl) (by kernel_rfl) (by kernel_rfl) (fun _ _ _ h => h) (by assumption) (Or.inr ⟨by kernel_rfl, rfl⟩) (fun hT => ?_)
            (try simp only [Act.put, List.getElem_toArray, List.getElem_cons_succ, List.getElem_cons_zero, List.setIfInBounds_toArray, List.set_cons_zero, List.set_cons_succ])
            refine wpAnyT_take _ [] (i := 13) (oi := _) (v := undef) (fun _ _ => Iff.rfl) (fun _ _ _ h => h) rfl (by kernel_rfl) (by kernel_rfl) (by kernel_rfl) (by kernel_rfl) (by kernel_rfl) (fun _ _ _ h => h) (by assumption) (Or.inr ⟨by kernel_rfl, rfl⟩) (fun hT => ?_)
            (try simp only [Act.put, List.getElem_toArray, List.getElem_cons_succ, List.getElem_cons_zero, List.setIfInBounds_toArray, List.set_cons_zero, List.set_cons_succ])
            refine wpAnyT_take _ [] (i := 14) (oi := _) (v := undef) (fun _ _ => Iff.rfl) (fun _ _ _ h => h) rfl (by kernel_rfl) (by kernel_rfl) (by kernel_rfl) (by kernel_rfl) (by kernel_rfl) (fun _ _ _ h => h) (by assumption) (Or.inr ⟨by kernel_rfl, rfl⟩) (fun hT => ?_)
            (try simp only [Act.put, List.getElem_toArray, List.getElem_cons_succ, List.getElem_cons_zero, List.setIfInBounds_toArray, List.set_cons_zero, List.set_cons_succ])
            refine wpAnyT_take _ [] (i := 15) (oi := _) (v := undef) (fun _ _ => Iff.rfl) (fun _ _ _ h => h) rfl (by kernel_rfl) (by kernel_rfl) (by kernel_rfl) (by kernel_rfl) (by kernel_rfl) (fun _ _ _ h => h) (by assumption) (Or.inr ⟨by kernel_rfl, rfl⟩) (fun hT => ?_)
            (try simp only [Act.put, List.getElem_toArray, List.getElem_cons_succ, List.getElem_cons_zero, List.setIfInBounds_toArray, List.set_cons_zero, List.set_cons_succ])
            refine wpAnyT_take _ [] (i := 16) (oi := _) (v := undef) (fun _ _ => Iff.rfl) (fun _ _ _ h => h) rfl (by kernel_rfl) (by kernel_rfl) (by kernel_rfl) (by kernel_rfl) (by kernel_rfl) (fun _ _ _ h => h) (by assumption) (Or.inr ⟨by kernel_rfl, rfl⟩) (fun hT => ?_)
            (try simp only [Act.put, List.getElem_toArray, List.getElem_cons_succ, List.getElem_cons_zero, List.setIfInBounds_toArray, List.set_cons_zero, List.set_cons_succ])
            refine wpAnyT_take _ [] (i := 17) (oi := _) (v := undef) (fun _ _ => Iff.rfl) (fun _ _ _ h => h) rfl (by kernel_rfl) (by kernel_rfl) (by kernel_rfl) (by kernel_rfl) (by kernel_rfl) (fun _ _ _ h => h) (by assumption) (Or.inr ⟨by kernel_rfl, rfl⟩) (fun hT => ?_)
            (try simp only [Act.put, List.getElem_toArray, List.getElem_cons_succ, List.getElem_cons_zero, List.setIfInBounds_toArray, List.set_cons_zero, List.set_cons_succ])
            refine wpAnyT_take _ [] (i := 18) (oi := _) (v := undef) (fun _ _ => Iff.rfl) (fun _ _ _ h => h) rfl (by kernel_rfl) (by kernel_rfl) (by kernel_rfl) (by kernel_rfl) (by kernel_rfl) (fun _ _ _ h => h) (by assumption) (Or.inr ⟨by kernel_rfl, rfl⟩) (fun hT => ?_)
            (try simp only [Act.put, List.getElem_toArray, List.getElem_cons_succ, List.getElem_cons_zero, List.setIfInBounds_toArray, List.set_cons_zero, List.set_cons_succ])
            refine wpAnyT_take _ [] (i := 19) (oi := _) (v := undef) (fun _ _ => Iff.rfl) (fun _ _ _ h => h) rfl (by kernel_rfl) (by kernel_rfl) (by kernel_rfl) (by kernel_rfl) (by kernel_rfl) (fun _ _ _ h => h) (by assumption) (Or.inr ⟨by kernel_rfl, rfl⟩) (fun hT => ?_)
            (try simp only [Act.put, List.getElem_toArray, List.getElem_cons_succ, List.getElem_cons_zero, List.setIfInBounds_toArray, List.set_cons_zero, List.set_cons_succ])
            refine wpAnyT_take _ [] (i := 20) (oi := _) (v := undef) (fun _ _ => Iff.rfl) (fun _ _ _ h => h) rfl (by kernel_rfl) (by kernel_rfl) (by kernel_rfl) (by kernel_rfl) (by kernel_rfl) (fun _ _ _ h => h) (by assumption) (Or.inr ⟨by kernel_rfl, rfl⟩) (fun hT => ?_)
            (try simp only [Act.put, List.getElem_toArray, List.getElem_cons_succ, List.getElem_cons_zero, List.setIfInBounds_toArray, List.set_cons_zero, List.set_cons_succ])
            refine wpAnyT_take _ [] (i := 21) (oi := _) (v := undef) (fun _ _ => Iff.rfl) (fun _ _ _ h => h) rfl (by kernel_rfl) (by kernel_rfl) (by kernel_rfl) (by kernel_rfl) (by kernel_rfl) (fun _ _ _ h => h) (by assumption) (Or.inr ⟨by kernel_rfl, rfl⟩) (fun hT => ?_)
            (try simp only [Act.put, List.getElem_toArray, List.getElem_cons_succ, List.getElem_cons_zero, List.setIfInBounds_toArray, List.set_cons_zero, List.set_cons_succ])
            refine wpAnyT_take _ [] (i := 22) (oi := _) (v := undef) (fun _ _ => Iff.rfl) (fun _ _ _ h => h) rfl (by kernel_rfl) (by kernel_rfl) (by kernel_rfl) (by kernel_rfl) (by kernel_rfl) (fun _ _ _ h => h) (by assumption) (Or.inr ⟨by kernel_rfl, rfl⟩) (fun hT => ?_)
            (try simp only [Act.put, List.getElem_toArray, List.getElem_cons_succ, List.getElem_cons_zero, List.setIfInBounds_toArray, List.set_cons_zero, List.set_cons_succ])
            refine wpAnyT_take _ [] (i := 23) (oi := _) (v := undef) (fun _ _ => Iff.rfl) (fun _ _ _ h => h) rfl (by kernel_rfl) (by kernel_rfl) (by kernel_rfl) (by kernel_rfl) (by kernel_rfl) (fun _ _ _ h => h) (by assumption) (Or.inr ⟨by kernel_rfl, rfl⟩) (fun hT => ?_)
            (try simp only [Act.put, List.getElem_toArray, List.getElem_cons_succ, List.getElem_cons_zero, List.setIfInBounds_toArray, List.set_cons_zero, List.set_cons_succ])
            refine wpAnyT_take _ [] (i := 24) (oi := _) (v := undef) (fun _ _ => Iff.rfl) (fun _ _ _ h => h) rfl (by kernel_rfl) (by kernel_rfl) (by kernel_rfl) (by kernel_rfl) (by kernel_rfl) (fun _ _ _ h => h) (by assumption) (Or.inr ⟨by kernel_rfl, rfl⟩) (fun hT => ?_)
            (try simp only [Act.put, List.getElem_toArray, List.getElem_cons_succ, List.getElem_cons_zero, List.setIfInBounds_toArray, List.set_cons_zero, List.set_cons_succ])
            refine wpAnyT_take _ [] (i := 25) (oi := _) (v := undef) (fun _ _ => Iff.rfl) (fun _ _ _ h => h) rfl (by kernel_rfl) (by kernel_rfl) (by kernel_rfl) (by kernel_rfl) (by kernel_rfl) (fun _ _ _ h => h) (by assumption) (Or.inr ⟨by kernel_rfl, rfl⟩) (fun hT => ?_)
            (try simp only [Act.put, List.getElem_toArray, List.getElem_cons_succ, List.getElem_cons_zero, List.setIfInBounds_toArray, List.set_cons_zero, List.set_cons_succ])
            refine wpAnyT_take _ [] (i := 26) (oi := _) (v := ?_) (fun _ _ => Iff.rfl) (fun _ _ _ h => h) rfl (by kernel_rfl) (by kernel_rfl) (by kernel_rfl) (by kernel_rfl) (by kernel_rfl) (fun _ _ _ h => h) (by assumption) (Or.inl ⟨by kernel_rfl, ?_⟩) (fun hT => ?_)
            rotate_left 1
            · intro w hSw
              (try dsimp only at hSw)
              first | (go_simp; done) | (go_simp; with_reducible rfl)
            (try simp only [Act.put, List.getElem_toArray, List.getElem_cons_succ, List.getElem_cons_zero, List.setIfInBounds_toArray, List.set_cons_zero, List.set_cons_succ])
            refine wpAnyT_take _ [] (i := 27) (oi := _) (v := ?_) (fun _ _ => Iff.rfl) (fun _ _ _ h => h) rfl (by kernel_rfl) (by kernel_rfl) (by kernel_rfl) (by kernel_rfl) (by kernel_rfl) (fun _ _ _ h => h) (by assumption) (Or.inl ⟨by kernel_rfl, ?_⟩) (fun hT => ?_)
            rotate_left 1
            · intro w hSw
              (try dsimp only at hSw)
              first | (go_simp; done) | (go_simp; with_reducible rfl)
            (try simp only [Act.put, List.getElem_toArray, List.getElem_cons_succ, List.getElem_cons_zero, List.setIfInBounds_toArray, List.set_cons_zero, List.set_cons_succ])
            refine wpAnyT_done (by kernel_rfl) ?_ _
            refine NoPanic.normal ?_
            go_wp2
            go_ret
            exact ⟨⟨_, rfl, HG.out _ HV3.out HMO.out⟩, HWB.out.trans (hb4.mono HWB.out.size)⟩
          | true =>
            go_upto_region 9 with (fail)
            refine wp_region_noPanic ?_
            refine wp_region_tail (fun (_ : Array Bool) (W : World) => Below wr.heap.size wr W ∧ (W.cell? ⟨w.heap.size, 0, none⟩ = some (.int .u32 (pV : Int)) ∧ W.cell? ⟨w.heap.size, 1, none⟩ = some (.slice A f.length c)) ∧ (W.cell? ⟨w.heap.size + 1, 0, none⟩ = some (.int .u32 (pV : Int)) ∧ W.cell? ⟨w.heap.size + 1, 1, none⟩ = some (.slice B g.length d)) ∧ W.cell? ⟨w.heap.size + 1 + 1, 0, none⟩ = some (.int .u32 (pV : Int)) ∧ W.cell? ⟨w.heap.size + 1 + 1, 1, none⟩ = some (.slice AG G.length cG) ∧ W.cell? ⟨w.heap.size + 1 + 1, 2, none⟩ = some (.int .u32 (pV : Int)) ∧ W.cell? ⟨w.heap.size + 1 + 1, 3, none⟩ = some (.slice AU U.length cU) ∧ W.cell? ⟨w.heap.size + 1 + 1, 4, none⟩ = some (.int .u32 (pV : Int)) ∧ W.cell? ⟨w.heap.size + 1 + 1, 5, none⟩ = some (.slice AV V.length cV)) (by kernel_rfl) (HSX.out _ HDR.out) (fun hT => ?_)
            refine wpAnyT_take _ [] (i := 0) (oi := _) (v := ?_) (fun _ _ => Iff.rfl) (fun _ _ _ h => h) rfl (by kernel_rfl) (by kernel_rfl) (by kernel_rfl) (by kernel_rfl) (by kernel_rfl) (fun _ _ _ h => h) (by assumption) (Or.inl ⟨by kernel_rfl, ?_⟩) (fun hT => ?_)
            rotate_left 1
            · intro w hSw
              (try dsimp only at hSw)
              first | (go_simp; done) | (go_simp; with_reducible rfl)
            (try simp only [Act.put, List.getElem_toArray, List.getElem_cons_zero, List.setIfInBounds_toArray, List.set_cons_zero, List.set_cons_succ])
            refine wpAnyT_take _ [] (i := 1) (oi := _) (v := ?_) (fun _ _ => Iff.rfl) (fun _ _ _ h => h) rfl (by kernel_rfl) (by kernel_rfl) (by kernel_rfl) (by kernel_rfl) (by kernel_rfl) (fun _ _ _ h => h) (by assumption) (Or.inl ⟨by kernel_rfl, ?_⟩) (fun hT => ?_)
            rotate_left 1
            · intro w hSw
              (try dsimp only at hSw)
              first | (go_simp; done) | (go_simp; with_reducible rfl)
            (try simp only [Act.put, List.getElem_toArray, List.getElem_cons_succ, List.getElem_cons_zero, List.setIfInBounds_toArray, List.set_cons_zero, List.set_cons_succ])
            refine wpAnyT_take _ [] (i := 2) (oi := _) (v := ?_) (fun _ _ => Iff.rfl) (fun _ _ _ h => h) rfl (by kernel_rfl) (by kernel_rfl) (by kernel_rfl) (by kernel_rfl) (by kernel_rfl) (fun _ _ _ h => h) (by assumption) (Or.inl ⟨by kernel_rfl, ?_⟩) (fun hT => ?_)
            rotate_left 1
            · intro w hSw
              (try dsimp only at hSw)
              first | (go_simp; done) | (go_simp; with_reducible rfl)
            (try simp only [Act.put, List.getElem_toArray, List.getElem_cons_succ, List.getElem_cons_zero, List.setIfInBounds_toArray, List.set_cons_zero, List.set_cons_succ])
            refine wpAnyT_one (i := 3) (by kernel_rfl) (oi := _) rfl (fun K hK => ?_)
            (try dsimp only [List.getElem_toArray, List.getElem_cons_succ, List.getElem_cons_zero])
            go_simp
            go_at_call 77
            (with_reducible refine (HD1.out _ HDR.out).mono ?_)
            rintro e w3 ⟨rfl, hb3⟩
            go_wp2_with (fail)
            refine hK.out _ _ (HSX.out _ hb3) (fun hT => ?_)
            clear hK K
            (try simp only [Act.put, List.getElem_toArray, List.getElem_cons_succ, List.getElem_cons_zero, List.setIfInBounds_toArray, List.set_cons_zero, List.set_cons_succ])
            refine wpAnyT_take _ [] (i := 4) (oi := _) (v := ?_) (fun _ _ => Iff.rfl) (fun _ _ _ h => h) rfl (by kernel_rfl) (by kernel_rfl) (by kernel_rfl) (by kernel_rfl) (by kernel_rfl) (fun _ _ _ h => h) (by assumption) (Or.inl ⟨by kernel_rfl, ?_⟩) (fun hT => ?_)
            rotate_left 1
            · intro w hSw
              (try dsimp only at hSw)
              first | (go_simp; done) | (go_simp; with_reducible rfl)
            (try simp only [Act.put, List.getElem_toArray, List.getElem_cons_succ, List.getElem_cons_zero, List.setIfInBounds_toArray, List.set_cons_zero, List.set_cons_succ])
            refine wpAnyT_take _ [] (i := 5) (oi := _) (v := ?_) (fun _ _ => Iff.rfl) (fun _ _ _ h => h) rfl (by kernel_rfl) (by kernel_rfl) (by kernel_rfl) (by kernel_rfl) (by kernel_rfl) (fun _ _ _ h => h) (by assumption) (Or.inl ⟨by kernel_rfl, ?_⟩) (fun hT => ?_)
            rotate_left 1
            · intro w hSw
              (try dsimp only at hSw)
              first | (go_simp; done) | (go_simp; with_reducible rfl)
            (try simp only [Act.put, List.getElem_toArray, List.getElem_cons_succ, List.getElem_cons_zero, List.setIfInBounds_toArray, List.set_cons_zero, List.set_cons_succ])
            refine wpAnyT_take _ [] (i := 6) (oi := _) (v := ?_) (fun _ _ => Iff.rfl) (fun _ _ _ h => h) rfl (by kernel_rfl) (by kernel_rfl) (by kernel_rfl) (by kernel_rfl) (by kernel_rfl) (fun _ _ _ h => h) (by assumption) (Or.inl ⟨by kernel_rfl, ?_⟩) (fun hT => ?_)
            rotate_left 1
            · intro w hSw
              (try dsimp only at hSw)
              first | (go_simp; done) | (go_simp; with_reducible rfl)
            (try simp only [Act.put, List.getElem_toArray, List.getElem_cons_succ, List.getElem_cons_zero, List.setIfInBounds_toArray, List.set_cons_zero, List.set_cons_succ])
            refine wpAnyT_take _ [] (i := 7) (oi := _) (v := ?_) (fun _ _ => Iff.rfl) (fun _ _ _ h => h) rfl (by kernel_rfl) (by kernel_rfl) (by kernel_rfl) (by kernel_rfl) (by kernel_rfl) (fun _ _ _ h => h) (by assumption) (Or.inl ⟨by kernel_rfl, ?_⟩) (fun hT => ?_)
            rotate_left 1
            · intro w hSw
              (try dsimp only at hSw)
              first | (go_simp; done) | (go_simp; with_reducible rfl)
            (try simp only [Act.put, List.getElem_toArray, List.getElem_cons_succ, List.getElem_cons_zero, List.setIfInBounds_toArray, List.set_cons_zero, List.set_cons_succ])
            refine wpAnyT_one (i := 8) (by kernel_rfl) (oi := _) rfl (fun K hK => ?_)
            (try dsimp only [List.getElem_toArray, List.getElem_cons_succ, List.getElem_cons_zero])
            go_simp
            go_at_call 77
            (with_reducible refine (HD2.out _ hb3).mono ?_)
            rintro e w4 ⟨rfl, hb4⟩
            go_wp2_with (fail)
            refine hK.out _ _ (HSX.out _ hb4) (fun hT => ?_)
            clear hK K
            (try simp only [Act.put, List.getElem_toArray, List.getElem_cons_succ, List.getElem_cons_zero, List.setIfInBounds_toArray, List.set_cons_zero, List.set_cons_succ])
            refine wpAnyT_take _ [] (i := 9) (oi := _) (v := ?_) (fun _ _ => Iff.rfl) (fun _ _ _ h => h) rfl (by kernel_rfl) (by kernel_rfl) (by kernel_rfl) (by kernel_rfl) (by kernel_rfl) (fun _ _ _ h => h) (by assumption) (Or.inl ⟨by kernel_rfl, ?_⟩) (fun hT => ?_)
            rotate_left 1
            · intro w hSw
              (try dsimp only at hSw)
              first | (go_simp; done) | (go_simp; with_reducible rfl)
            (try simp only [Act.put, List.getElem_toArray, List.getElem_cons_succ, List.getElem_cons_zero, List.setIfInBounds_toArray, List.set_cons_zero, List.set_cons_succ])
            refine wpAnyT_take _ [] (i := 10) (oi := _) (v := ?_) (fun _ _ => Iff.rfl) (fun _ _ _ h => h) rfl (by kernel_rfl) (by kernel_rfl) (by kernel_rfl) (by kernel_rfl) (by kernel_rfl) (fun _ _ _ h => h) (by assumption) (Or.inl ⟨by kernel_rfl, ?_⟩) (fun hT => ?_)
            rotate_left 1
            · intro w hSw
              (try dsimp only at hSw)
              first | (go_simp; done) | (go_simp; with_reducible rfl)
            (try simp only [Act.put, List.getElem_toArray, List.getElem_cons_succ, List.getElem_cons_zero, List.setIfInBounds_toArray, List.set_cons_zero, List.set_cons_succ])
            refine wpAnyT_take _ [] (i := 11) (oi := _) (v := ?_) (fun _ _ => Iff.rfl) (fun _ _ _ h => h) rfl (by kernel_rfl) (by kernel_rfl) (by kernel_rfl) (by kernel_rfl) (by kernel_rfl) (fun _ _ _ h => h) (by assumption) (Or.inl ⟨by kernel_rfl, ?_⟩) (fun hT => ?_)
            rotate_left 1
            · intro w hSw
              (try dsimp only at hSw)
              first | (go_simp; done) | (go_simp; with_reducible rfl)
            (try simp only [Act.put, List.getElem_toArray, List.getElem_cons_succ, List.getElem_cons_zero, List.setIfInBounds_toArray, List.set_cons_zero, List.set_cons_succ])
            refine wpAnyT_take _ [] (i := 12) (oi := _) (v := ?_) (fun _ _ => Iff.rfl) (fun _ _ _ h => h) rfl (by kernel_rfl) (by kernel_rfl) (by kernel_rfl) (by kernel_rfl) (by kernel_rfl) (fun _ _ _ h => h) (by assumption) (Or.inl ⟨by kernel_rfl, ?_⟩) (fun hT => ?_)
            rotate_left 1
            · intro w hSw
              (try dsimp only at hSw)
              first | (go_simp; done) | (go_simp; with_reducible rfl)
            (try simp only [Act.put, List.getElem_toArray, List.getElem_cons_succ, List.getElem_cons_zero, List.setIfInBounds_toArray, List.set_cons_zero, List.set_cons_succ])
            refine wpAnyT_take _ [] (i := 13) (oi := _) (v := ?_) (fun _ _ => Iff.rfl) (fun _ _ _ h => h) rfl (by kernel_rfl) (by kernel_rfl) (by kernel_rfl) (by kernel_rfl) (by kernel_rfl) (fun _ _ _ h => h) (by assumption) (Or.inl ⟨by kernel_rfl, ?_⟩) (fun hT => ?_)
            rotate_left 1
            · intro w hSw
              (try dsimp only at hSw)
              first | (go_simp; done) | (go_simp; with_reducible rfl)
            (try simp only [Act.put, List.getElem_toArray, List.getElem_cons_succ, List.getElem_cons_zero, List.setIfInBounds_toArray, List.set_cons_zero, List.set_cons_succ])
            refine wpAnyT_take _ [] (i := 14) (oi := _) (v := ?_) (fun _ _ => Iff.rfl) (fun _ _ _ h => h) rfl (by kernel_rfl) (by kernel_rfl) (by kernel_rfl) (by kernel_rfl) (by kernel_rfl) (fun _ _ _ h => h) (by assumption) (Or.inl ⟨by kernel_rfl, ?_⟩) (fun hT => ?_)
            rotate_left 1
            · intro w hSw
              (try dsimp only at hSw)
              first | (go_simp; done) | (go_simp; with_reducible rfl)
            (try simp only [Act.put, List.getElem_toArray, List.getElem_cons_succ, List.getElem_cons_zero, List.setIfInBounds_toArray, List.set_cons_zero, List.set_cons_succ])
            refine wpAnyT_take _ [] (i := 15) (oi := _) (v := ?_) (fun _ _ => Iff.rfl) (fun _ _ _ h => h) rfl (by kernel_rfl) (by kernel_rfl) (by kernel_rfl) (by kernel_rfl) (by kernel_rfl) (fun _ _ _ h => h) (by assumption) (Or.inl ⟨by kernel_rfl, ?_⟩) (fun hT => ?_)
            rotate_left 1
            · intro w hSw
              (try dsimp only at hSw)
              first | (go_simp; done) | (go_simp; with_reducible rfl)
            (try simp only [Act.put, List.getElem_toArray, List.getElem_cons_succ, List.getElem_cons_zero, List.setIfInBounds_toArray, List.set_cons_zero, List.set_cons_succ])
            refine wpAnyT_take _ [] (i := 16) (oi := _) (v := ?_) (fun _ _ => Iff.rfl) (fun _ _ _ h => h) rfl (by kernel_rfl) (by kernel_rfl) (by kernel_rfl) (by kernel_rfl) (by kernel_rfl) (fun _ _ _ h => h) (by assumption) (Or.inl ⟨by kernel_rfl, ?_⟩) (fun hT => ?_)
            rotate_left 1
            · intro w hSw
              (try dsimp only at hSw)
              first | (go_simp; done) | (go_simp; with_reducible rfl)
            (try simp only [Act.put, List.getElem_toArray, List.getElem_cons_succ, List.getElem_cons_zero, List.setIfInBounds_toArray, List.set_cons_zero, List.set_cons_succ])
            refine wpAnyT_take _ [] (i := 17) (oi := _) (v := ?_) (fun _ _ => Iff.rfl) (fun _ _ _ h => h) rfl (by kernel_rfl) (by kernel_rfl) (by kernel_rfl) (by kernel_rfl) (by kernel_rfl) (fun _ _ _ h => h) (by assumption) (Or.inl ⟨by kernel_rfl, ?_⟩) (fun hT => ?_)
            rotate_left 1
            · intro w hSw
              (try dsimp only at hSw)
              first | (go_simp; done) | (go_simp; with_reducible rfl)
            (try simp only [Act.put, List.getElem_toArray, List.getElem_cons_succ, List.getElem_cons_zero, List.setIfInBounds_toArray, List.set_cons_zero, List.set_cons_succ])
            refine wpAnyT_take _ [] (i := 19) (oi := _) (v := ?_) (fun _ _ => Iff.rfl) (fun _ _ _ h => h) rfl (by kernel_rfl) (by kernel_rfl) (by kernel_rfl) (by kernel_rfl) (by kernel_rfl) (fun _ _ _ h => h) (by assumption) (Or.inl ⟨by kernel_rfl, ?_⟩) (fun hT => ?_)
            rotate_left 1
            · intro w hSw
              (try dsimp only at hSw)
              first | (go_simp; done) | (go_simp; with_reducible rfl)
            (try simp only [Act.put, List.getElem_toArray, List.getElem_cons_succ, List.getElem_cons_zero, List.setIfInBounds_toArray, List.set_cons_zero, List.set_cons_succ])
            refine wpAnyT_take _ [] (i := 20) (oi := _) (v := ?_) (fun _ _ => Iff.rfl) (fun _ _ _ h => h) rfl (by kernel_rfl) (by kernel_rfl) (by kernel_rfl) (by kernel_rfl) (by kernel_rfl) (fun _ _ _ h => h) (by assumption) (Or.inl ⟨by kernel_rfl, ?_⟩) (fun hT => ?_)
            rotate_left 1
            · intro w hSw
              (try dsimp only at hSw)
              first | (go_simp; done) | (go_simp; with_reducible rfl)
            (try simp only [Act.put, List.getElem_toArray, List.getElem_cons_succ, List.getElem_cons_zero, List.setIfInBounds_toArray, List.set_cons_zero, List.set_cons_succ])
            refine wpAnyT_take _ [] (i := 21) (oi := _) (v := ?_) (fun _ _ => Iff.rfl) (fun _ _ _ h => h) rfl (by kernel_rfl) (by kernel_rfl) (by kernel_rfl) (by kernel_rfl) (by kernel_rfl) (fun _ _ _ h => h) (by assumption) (Or.inl ⟨by kernel_rfl, ?_⟩) (fun hT => ?_)
            rotate_left 1
            · intro w hSw
              (try dsimp only at hSw)
              first | (go_simp; done) | (go_simp; with_reducible rfl)
            (try simp only [Act.put, List.getElem_toArray, List.getElem_cons_succ, List.getElem_cons_zero, List.setIfInBounds_toArray, List.set_cons_zero, List.set_cons_succ])
            refine wpAnyT_one (i := 18) (by kernel_rfl) (oi := _) rfl (fun K hK => ?_)
            (try dsimp only [List.getElem_toArray, List.getElem_cons_succ, List.getElem_cons_zero])
            go_simp
            go_at_call 34
            (with_reducible refine (HM1.out _ hb4).mono ?_)
            rintro e w5 ⟨M1A, m1c, rfl, hM1, hm1c, hb5, hc5⟩
            go_wp2_with (fail)
            refine hK.out _ _ (HSX.out _ hb5) (fun hT => ?_)
            clear hK K
            (try simp only [Act.put, List.getElem_toArray, List.getElem_cons_succ, List.getElem_cons_zero, List.setIfInBounds_toArray, List.set_cons_zero, List.set_cons_succ])
            refine wpAnyT_one (i := 22) (by kernel_rfl) (oi := _) rfl (fun K hK => ?_)
            (try dsimp only [List.getElem_toArray, List.getElem_cons_succ, List.getElem_cons_zero])
            go_simp
            go_at_call 34
            (with_reducible refine (HM2.out _ hb5).mono ?_)
            rintro e w6 ⟨M2A, m2c, rfl, hM2, hm2c, hb6, hc6⟩
            go_wp2_with (fail)
            refine hK.out _ _ (HSX.out _ hb6) (fun hT => ?_)
            clear hK K
            (try simp only [Act.put, List.getElem_toArray, List.getElem_cons_succ, List.getElem_cons_zero, List.setIfInBounds_toArray, List.set_cons_zero, List.set_cons_succ])
            refine wpAnyT_one (i := 23) (by kernel_rfl) (oi := _) rfl (fun K hK => ?_)
            (try dsimp only [List.getElem_toArray, List.getElem_cons_succ, List.getElem_cons_zero])
            go_simp
            refine hK.out _ _ (HSX.out _ (hb6.alloc hb6.size _)) (fun hT => ?_)
            clear hK K
            (try simp only [Act.put, List.getElem_toArray, List.getElem_cons_succ, List.getElem_cons_zero, List.setIfInBounds_toArray, List.set_cons_zero, List.set_cons_succ])
            refine wpAnyT_one (i := 24) (by kernel_rfl) (oi := _) rfl (fun K hK => ?_)
            (try dsimp only [List.getElem_toArray, List.getElem_cons_succ, List.getElem_cons_zero])
            go_simp
            go_at_call 78
            (with_reducible refine (HSU.out _ _ _ _ _ _ hb6 (hM1.below hc6) hM2).mono ?_)
            rintro e w7 ⟨SA, sc, rfl, hS, hsc, hb7⟩
            go_wp2_with (fail)
            refine hK.out _ _ (HSX.out _ hb7) (fun hT => ?_)
            clear hK K
            (try simp only [Act.put, List.getElem_toArray, List.getElem_cons_succ, List.getElem_cons_zero, List.setIfInBounds_toArray, List.set_cons_zero, List.set_cons_succ])
            refine wpAnyT_one (i := 25) (by kernel_rfl) (oi := _) rfl (fun K hK => ?_)
            (try dsimp only [List.getElem_toArray, List.getElem_cons_succ, List.getElem_cons_zero])
            go_simp
            go_at_call 15
            (with_reducible refine (HEQ.out _ _ _ hb7 hS).mono ?_)
            rintro e w8 ⟨rfl, hb8⟩
            go_wp2_with (fail)
            refine hK.out _ _ (HSX.out _ hb8) (fun hT => ?_)
            clear hK K
            (try simp only [Act.put, List.getElem_toArray, List.getElem_cons_succ, List.getElem_cons_zero, List.setIfInBounds_toArray, List.set_cons_zero, List.set_cons_succ])
            refine wpAnyT_take _ [] (i := 26) (oi := _) (v := ?_) (fun _ _ => Iff.rfl) (fun _ _ _ h => h) rfl (by kernel_rfl) (by kernel_rfl) (by kernel_rfl) (by kernel_rfl) (by kernel_rfl) (fun _ _ _ h => h) (by assumption) (Or.inl ⟨by kernel_rfl, ?_⟩) (fun hT => ?_)
            rotate_left 1
            · intro w hSw
              (try dsimp only at hSw)
              first | (go_simp; done) | (go_simp; with_reducible rfl)
            (try simp only [Act.put, List.getElem_toArray, List.getElem_cons_succ, List.getElem_cons_zero, List.setIfInBounds_toArray, List.set_cons_zero, List.set_cons_succ])
            refine wpAnyT_take _ [] (i := 27) (oi := _) (v := ?_) (fun _ _ => Iff.rfl) (fun _ _ _ h => h) rfl (by kernel_rfl) (by kernel_rfl) (by kernel_rfl) (by kernel_rfl) (by kernel_rfl) (fun _ _ _ h => h) (by assumption) (Or.inl ⟨by kernel_rfl, ?_⟩) (fun hT => ?_)
            rotate_left 1
            · intro w hSw
              (try dsimp only at hSw)
              first | (go_simp; done) | (go_simp; with_reducible rfl)
            (try simp only [Act.put, List.getElem_toArray, List.getElem_cons_succ, List.getElem_cons_zero, List.setIfInBounds_toArray, List.set_cons_zero, List.set_cons_succ])
            refine wpAnyT_done (by kernel_rfl) ?_ _
            refine NoPanic.normal ?_
            go_wp2
            go_ret
            exact ⟨⟨_, rfl, HG.out _ HV3.out HMO.out⟩, HWB.out.trans (hb8.mono HWB.out.size)⟩
      · obtain ⟨ad, rfl, hab, hcc⟩ := HGA.out (by omega)
        have hcz := hcc m (by omega)
        rw [hgz] at hcz
        have i0 : decide ((0 : Int) < (G.length : Int)) = true := by rw [decide_eq_true_iff]; omega
        have i0' : (0 : Int) < (G.length : Int) := by omega
        have i0n : decide (0 < G.length) = true := by rw [decide_eq_true_iff]; omega
        have i1 : (G.length : Int) - 1 = (m : Int) := by omega
        have i2 : (m : Int) < (G.length : Int) := by omega
        clear hcc hgz hgl HGA
        rcases hz1 with ⟨rfl, HMO⟩ | ⟨hz1, HMO⟩
        · cases v1 with
          | false =>
            go_upto_region 9 with (fail)
            refine wp_region_noPanic ?_
            refine wp_region_tail (fun (_ : Array Bool) (W : World) => Below wr.heap.size wr W ∧ (W.cell? ⟨w.heap.size, 0, none⟩ = some (.int .u32 (pV : Int)) ∧ W.cell? ⟨w.heap.size, 1, none⟩ = some (.slice A f.length c)) ∧ (W.cell? ⟨w.heap.size + 1, 0, none⟩ = some (.int .u32 (pV : Int)) ∧ W.cell? ⟨w.heap.size + 1, 1, none⟩ = some (.slice B g.length d)) ∧ W.cell? ⟨w.heap.size + 1 + 1, 0, none⟩ = some (.int .u32 (pV : Int)) ∧ W.cell? ⟨w.heap.size + 1 + 1, 1, none⟩ = some (.slice (some ad) G.length cG) ∧ W.cell? ⟨w.heap.size + 1 + 1, 2, none⟩ = some (.int .u32 (pV : Int)) ∧ W.cell? ⟨w.heap.size + 1 + 1, 3, none⟩ = some (.slice AU U.length cU) ∧ W.cell? ⟨w.heap.size + 1 + 1, 4, none⟩ = some (.int .u32 (pV : Int)) ∧ W.cell? ⟨w.heap.size + 1 + 1, 5, none⟩ = some (.slice AV V.length cV)) (by kernel_rfl) (HSX.out _ HDR.out) (fun hT => ?_)
            refine wpAnyT_take _ [] (i := 0) (oi := _) (v := ?_) (fun _ _ => Iff.rfl) (fun _ _ _ h => h) rfl (by kernel_rfl) (by kernel_rfl) (by kernel_rfl) (by kernel_rfl) (by kernel_rfl) (fun _ _ _ h => h) (by assumption) (Or.inl ⟨by kernel_rfl, ?_⟩) (fun hT => ?_)
            rotate_left 1
            · intro w hSw
              (try dsimp only at hSw)
              first | (go_simp; done) | (go_simp; with_reducible rfl)
            (try simp only [Act.put, List.getElem_toArray, List.getElem_cons_zero, List.setIfInBounds_toArray, List.set_cons_zero, List.set_cons_succ])
            refine wpAnyT_take _ [] (i := 1) (oi := _) (v := ?_) (fun _ _ => Iff.rfl) (fun _ _ _ h => h) rfl (by kernel_rfl) (by kernel_rfl) (by kernel_rfl) (by kernel_rfl) (by kernel_rfl) (fun _ _ _ h => h) (by assumption) (Or.inl ⟨by kernel_rfl, ?_⟩) (fun hT => ?_)
            rotate_left 1
            · intro w hSw
              (try dsimp only at hSw)
              first | (go_simp; done) | (go_simp; with_reducible rfl)
            (try simp only [Act.put, List.getElem_toArray, List.getElem_cons_succ, List.getElem_cons_zero, List.setIfInBounds_toArray, List.set_cons_zero, List.set_cons_succ])
            refine wpAnyT_take _ [] (i := 2) (oi := _) (v := ?_) (fun _ _ => Iff.rfl) (fun _ _ _ h => h) rfl (by kernel_rfl) (by kernel_rfl) (by kernel_rfl) (by kernel_rfl) (by kernel_rfl) (fun _ _ _ h => h) (by assumption) (Or.inl ⟨by kernel_rfl, ?_⟩) (fun hT => ?_)
            rotate_left 1
            · intro w hSw
              (try dsimp only at hSw)
              first | (go_simp; done) | (go_simp; with_reducible rfl)
            (try simp only [Act.put, List.getElem_toArray, List.getElem_cons_succ, List.getElem_cons_zero, List.setIfInBounds_toArray, List.set_cons_zero, List.set_cons_succ])
            refine wpAnyT_one (i := 3) (by kernel_rfl) (oi := _) rfl (fun K hK => ?_)
            (try dsimp only [List.getElem_toArray, List.getElem_cons_succ, List.getElem_cons_zero])
            go_simp
            go_at_call 77
            (with_reducible refine (HD1.out _ HDR.out).mono ?_)
            rintro e w3 ⟨rfl, hb3⟩
            go_wp2_with (fail)
            refine hK.out _ _ (HSX.out _ hb3) (fun hT => ?_)
            clear hK K
            (try simp only [Act.put, List.getElem_toArray, List.getElem_cons_succ, List.getElem_cons_zero, List.setIfInBounds_toArray, List.set_cons_zero, List.set_cons_succ])
            refine wpAnyT_take _ [] (i := 4) (oi := _) (v := ?_) (fun _ _ => Iff.rfl) (fun _ _ _ h => h) rfl (by kernel_rfl) (by kernel_rfl) (by kernel_rfl) (by kernel_rfl) (by kernel_rfl) (fun _ _ _ h => h) (by assumption) (Or.inl ⟨by kernel_rfl, ?_⟩) (fun hT => ?_)
            rotate_left 1
            · intro w hSw
              (try dsimp only at hSw)
              first | (go_simp; done) | (go_simp; with_reducible rfl)
            (try simp only [Act.put, List.getElem_toArray, List.getElem_cons_succ, List.getElem_cons_zero, List.setIfInBounds_toArray, List.set_cons_zero, List.set_cons_succ])
            refine wpAnyT_take _ [] (i := 5) (oi := _) (v := undef) (fun _ _ => Iff.rfl) (fun _ _ _ h => h) rfl (by kernel_rfl) (by kernel_rfl) (by kernel_rfl) (by kernel_rfl) (by kernel_rfl) (fun _ _ _ h => h) (by assumption) (Or.inr ⟨by kernel_rfl, rfl⟩) (fun hT => ?_)
            (try simp only [Act.put, List.getElem_toArray, List.getElem_cons_succ, List.getElem_cons_zero, List.setIfInBounds_toArray, List.set_cons_zero, List.set_cons_succ])
            refine wpAnyT_take _ [] (i := 6) (oi := _) (v := undef) (fun _ _ => Iff.rfl) (fun _ _ _ h => h) rfl (by kernel_rfl) (by kernel_rfl) (by kernel_rfl) (by kernel_rfl) (by kernel_rfl) (fun _ _ _ h => h) (by assumption) (Or.inr ⟨by kernel_rfl, rfl⟩) (fun hT => ?_)
            (try simp only [Act.put, List.getElem_toArray, List.getElem_cons_succ, List.getElem_cons_zero, List.setIfInBounds_toArray, List.set_cons_zero, List.set_cons_succ])
            refine wpAnyT_take _ [] (i := 7) (oi := _) (v := undef) (fun _ _ => Iff.rfl) (fun _ _ _ h => h) rfl (by kernel_rfl) (by kernel_rfl) (by kernel_rfl) (by kernel_rfl) (by kernel_rfl) (fun _ _ _ h => h) (by assumption) (Or.inr ⟨by kernel_rfl, rfl⟩) (fun hT => ?_)
            (try simp only [Act.put, List.getElem_toArray, List.getElem_cons_succ, List.getElem_cons_zero, List.setIfInBounds_toArray, List.set_cons_zero, List.set_cons_succ])
            refine wpAnyT_take _ [] (i := 8) (oi := _) (v := undef) (fun _ _ => Iff.rfl) (fun _ _ _ h => h) rfl (by kernel_rfl) (by kernel_rfl) (by kernel_rfl) (by kernel_rfl) (by kernel_rfl) (fun _ _ _ h => h) (by assumption) (Or.inr ⟨by kernel_rfl, rfl⟩) (fun hT => ?_)
            (try simp only [Act.put, List.getElem_toArray, List.getElem_cons_succ, List.getElem_cons_zero, List.setIfInBounds_toArray, List.set_cons_zero, List.set_cons_succ])
            refine wpAnyT_take _ [] (i := 9) (oi := _) (v := ?_) (fun _ _ => Iff.rfl) (fun _ _ _ h => h) rfl (by kernel_rfl) (by kernel_rfl) (by kernel_rfl) (by kernel_rfl) (by kernel_rfl) (fun _ _ _ h => h) (by assumption) (Or.inl ⟨by kernel_rfl, ?_⟩) (fun hT => ?_)
            rotate_left 1
            · intro w hSw
              (try dsimp only at hSw)
              first | (go_simp; done) | (go_simp; with_reducible rfl)
            (try simp only [Act.put, List.getElem_toArray, List.getElem_cons_succ, List.getElem_cons_zero, List.setIfInBounds_toArray, List.set_cons_zero, List.set_cons_succ])
            refine wpAnyT_take _ [] (i := 10) (oi := _) (v := ?_) (fun _ _ => Iff.rfl) (fun _ _ _ h => h) rfl (by kernel_rfl) (by kernel_rfl) (by kernel_rfl) (by kernel_rfl) (by kernel_rfl) (fun _ _ _ h => h) (by assumption) (Or.inl ⟨by kernel_rfl, ?_⟩) (fun hT => ?_)
            rotate_left 1
            · intro w hSw
              (try dsimp only at hSw)
              first | (go_simp; done) | (go_simp; with_reducible rfl)
            (try simp only [Act.put, List.getElem_toArray, List.getElem_cons_succ, List.getElem_cons_zero, List.setIfInBounds_toArray, List.set_cons_zero, List.set_cons_succ])
            refine wpAnyT_take _ [] (i := 11) (oi := _) (v := undef) (fun _ _ => Iff.rfl) (fun _ _ _ h => h) rfl (by kernel_rfl) (by kernel_rfl) (by kernel_rfl) (by kernel_rfl) (by kernel_rfl) (fun _ _ _ h => h) (by assumption) (Or.inr ⟨by kernel_rfl, rfl⟩) (fun hT => ?_)
            (try simp only [Act.put, List.getElem_toArray, List.getElem_cons_succ, List.getElem_cons_zero, List.setIfInBounds_toArray, List.set_cons_zero, List.set_cons_succ])
            refine wpAnyT_take _ [] (i := 12) (oi := _) (v := undef) (fun _ _ => Iff.rfl) (fun _ _ _ h => h) rfl (by kernel_rfl) (by kernel_rfl) (by kernel_rfl) (by kernel_rfl) (by kernel_rfl) (fun _ _ _ h => h) (by assumption) (Or.inr ⟨by kernel_rfl, rfl⟩) (fun hT => ?_)
            (try simp only [Act.put, List.getElem_toArray, List.getElem_cons_succ, List.getElem_cons_zero, List.setIfInBounds_toArray, List.set_cons_zero, List.set_cons_succ])
            refine wpAnyT_take _ [] (i := 13) (oi := _) (v := undef) (fun _ _ => Iff.rfl) (fun _ _ _ h => h) rfl (by kernel_rfl) (by kernel_rfl) (by kernel_rfl) (by kernel_rfl) (by kernel_rfl) (fun _ _ _ h => h) (by assumption) (Or.inr ⟨by kernel_rfl, rfl⟩) (fun hT => ?_)
            (try simp only [Act.put, List.getElem_toArray, List.getElem_cons_succ, List.getElem_cons_zero, List.setIfInBounds_toArray, List.set_cons_zero, List.set_cons_succ])
            refine wpAnyT_take _ [] (i := 14) (oi := _) (v := undef) (fun _ _ => Iff.rfl) (fun _ _ _ h => h) rfl (by kernel_rfl) (by kernel_rfl) (by kernel_rfl) (by kernel_rfl) (by kernel_rfl) (fun _ _ _ h => h) (by assumption) (Or.inr ⟨by kernel_rfl, rfl⟩) (fun hT => ?_)
            (try simp only [Act.put, List.getElem_toArray, List.getElem_cons_succ, List.getElem_cons_zero, List.setIfInBounds_toArray, List.set_cons_zero, List.set_cons_succ])
            refine wpAnyT_take _ [] (i := 15) (oi := _) (v := undef) (fun _ _ => Iff.rfl) (fun _ _ _ h => h) rfl (by kernel_rfl) (by kernel_rfl) (by kernel_rfl) (by kernel_rfl) (by kernel_rfl) (fun _ _ _ h => h) (by assumption) (Or.inr ⟨by kernel_rfl, rfl⟩) (fun hT => ?_)
            (try simp only [Act.put, List.getElem_toArray, List.getElem_cons_succ, List.getElem_cons_zero, List.setIfInBounds_toArray, List.set_cons_zero, List.set_cons_succ])
            refine wpAnyT_take _ [] (i := 16) (oi := _) (v := undef) (fun _ _ => Iff.rfl) (fun _ _ _ h => h) rfl (by kernel_rfl) (by kernel_rfl) (by kernel_rfl) (by kernel_rfl) (by kernel_rfl) (fun _ _ _ h => h) (by assumption) (Or.inr ⟨by kernel_rfl, rfl⟩) (fun hT => ?_)
            (try simp only [Act.put, List.getElem_toArray, List.getElem_cons_succ, List.getElem_cons_zero, List.setIfInBounds_toArray, List.set_cons_zero, List.set_cons_succ])
            refine wpAnyT_take _ [] (i := 17) (oi := _) (v := undef) (fun _ _ => Iff.rfl) (fun _ _ _ h => h) rfl (by kernel_rfl) (by kernel_rfl) (by kernel_rfl) (by kernel_rfl) (by kernel_rfl) (fun _ _ _ h => h) (by assumption) (Or.inr ⟨by kernel_rfl, rfl⟩) (fun hT => ?_)
            (try simp only [Act.put, List.getElem_toArray, List.getElem_cons_succ, List.getElem_cons_zero, List.setIfInBounds_toArray, List.set_cons_zero, List.set_cons_succ])
            refine wpAnyT_take _ [] (i := 18) (oi := _) (v := undef) (fun _ _ => Iff.rfl) (fun _ _ _ h => h) rfl (by kernel_rfl) (by kernel_rfl) (by kernel_rfl) (by kernel_rfl) (by kernel_rfl) (fun _ _ _ h => h) (by assumption) (Or.inr ⟨by kernel_rfl, rfl⟩) (fun hT => ?_)
            (try simp only [Act.put, List.getElem_toArray, List.getElem_cons_succ, List.getElem_cons_zero, List.setIfInBounds_toArray, List.set_cons_zero, List.set_cons_succ])
            refine wpAnyT_take _ [] (i := 19) (oi := _) (v := undef) (fun _ _ => Iff.rfl) (fun _ _ _ h => h) rfl (by kernel_rfl) (by kernel_rfl) (by kernel_rfl) (by kernel_rfl) (by kernel_rfl) (fun _ _ _ h => h) (by assumption) (Or.inr ⟨by kernel_rfl, rfl⟩) (fun hT => ?_)
            (try simp only [Act.put, List.getElem_toArray, List.getElem_cons_succ, List.getElem_cons_zero, List.setIfInBounds_toArray, List.set_cons_zero, List.set_cons_succ])
            refine wpAnyT_take _ [] (i := 20) (oi := _) (v := undef) (fun _ _ => Iff.rfl) (fun _ _ _ h => h) rfl (by kernel_rfl) (by kernel_rfl) (by kernel_rfl) (by kernel_rfl) (by kernel_rfl) (fun _ _ _ h => h) (by assumption) (Or.inr ⟨by kernel_rfl, rfl⟩) (fun hT => ?_)
            (try simp only [Act.put, List.getElem_toArray, List.getElem_cons_succ, List.getElem_cons_zero, List.setIfInBounds_toArray, List.set_cons_zero, List.set_cons_succ])
            refine wpAnyT_take _ [] (i := 21) (oi := _) (v := undef) (fun _ _ => Iff.rfl) (fun _ _ _ h => h) rfl (by kernel_rfl) (by kernel_rfl) (by kernel_rfl) (by kernel_rfl) (by kernel_rfl) (fun _ _ _ h => h) (by assumption) (Or.inr ⟨by kernel_rfl, rfl⟩) (fun hT => ?_)
            (try simp only [Act.put, List.getElem_toArray, List.getElem_cons_succ, List.getElem_cons_zero, List.setIfInBounds_toArray, List.set_cons_zero, List.set_cons_succ])
            refine wpAnyT_take _ [] (i := 22) (oi := _) (v := undef) (fun _ _ => Iff.rfl) (fun _ _ _ h => h) rfl (by kernel_rfl) (by kernel_rfl) (by kernel_rfl) (by kernel_rfl) (by kernel_rfl) (fun _ _ _ h => h) (by assumption) (Or.inr ⟨by kernel_rfl, rfl⟩) (fun hT => ?_)
            (try simp only [Act.put, List.getElem_toArray, List.getElem_cons_succ, List.getElem_cons_zero, List.setIfInBounds_toArray, List.set_cons_zero, List.set_cons_succ])
            refine wpAnyT_take _ [] (i := 23) (oi := _) (v := undef) (fun _ _ => Iff.rfl) (fun _ _ _ h => h) rfl (by kernel_rfl) (by kernel_rfl) (by kernel_rfl) (by kernel_rfl) (by kernel_rfl) (fun _ _ _ h => h) (by assumption) (Or.inr ⟨by kernel_rfl, rfl⟩) (fun hT => ?_)
            (try simp only [Act.put, List.getElem_toArray, List.getElem_cons_succ, List.getElem_cons_zero, List.setIfInBounds_toArray, List.set_cons_zero, List.set_cons_succ])
            refine wpAnyT_take _ [] (i := 24) (oi := _) (v := undef) (fun _ _ => Iff.rfl) (fun _ _ _ h => h) rfl (by kernel_rfl) (by kernel_rfl) (by kernel_rfl) (by kernel_rfl) (by kernel_rfl) (fun _ _ _ h => h) (by assumption) (Or.inr ⟨by kernel_rfl, rfl⟩) (fun hT => ?_)
            (try simp only [Act.put, List.getElem_toArray, List.getElem_cons_succ, List.getElem_cons_zero, List.setIfInBounds_toArray, List.set_cons_zero, List.set_cons_succ])
            refine wpAnyT_take _ [] (i := 25) (oi := _) (v := undef) (fun _ _ => Iff.rfl) (fun _ _ _ h => h) rfl (by kernel_rfl) (by kernel_rfl) (by kernel_rfl) (by kernel_rfl) (by kernel_rfl) (fun _ _ _ h => h) (by assumption) (Or.inr ⟨by kernel_rfl, rfl⟩) (fun hT => ?_)
            (try simp only [Act.put, List.getElem_toArray, List.getElem_cons_succ, List.getElem_cons_zero, List.setIfInBounds_toArray, List.set_cons_zero, List.set_cons_succ])
            refine wpAnyT_take _ [] (i := 26) (oi := _) (v := ?_) (fun _ _ => Iff.rfl) (fun _ _ _ h => h) rfl (by kernel_rfl) (by kernel_rfl) (by kernel_rfl) (by kernel_rfl) (by kernel_rfl) (fun _ _ _ h => h) (by assumption) (Or.inl ⟨by kernel_rfl, ?_⟩) (fun hT => ?_)
            rotate_left 1
            · intro w hSw
              (try dsimp only at hSw)
              first | (go_simp; done) | (go_simp; with_reducible rfl)
            (try simp only [Act.put, List.getElem_toArray, List.getElem_cons_succ, List.getElem_cons_zero, List.setIfInBounds_toArray, List.set_cons_zero, List.set_cons_succ])
            refine wpAnyT_take _ [] (i := 27) (oi := _) (v := ?_) (fun _ _ => Iff.rfl) (fun _ _ _ h => h) rfl (by kernel_rfl) (by kernel_rfl) (by kernel_rfl) (by kernel_rfl) (by kernel_rfl) (fun _ _ _ h => h) (by assumption) (Or.inl ⟨by kernel_rfl, ?_⟩) (fun hT => ?_)
            rotate_left 1
            · intro w hSw
              (try dsimp only at hSw)
              first | (go_simp; done) | (go_simp; with_reducible rfl)
            (try simp only [Act.put, List.getElem_toArray, List.getElem_cons_succ, List.getElem_cons_zero, List.setIfInBounds_toArray, List.set_cons_zero, List.set_cons_succ])
            refine wpAnyT_done (by kernel_rfl) ?_ _
            refine NoPanic.normal ?_
            go_wp2
            go_ret
            exact ⟨⟨_, rfl, HG.out _ HV3.out HMO.out⟩, HWB.out.trans (hb3.mono HWB.out.size)⟩
          | true =>
            cases v2 with
            | false =>
              go_upto_region 9 with (fail)
              refine wp_region_noPanic ?_
              refine wp_region_tail (fun (_ : Array Bool) (W : World) => Below wr.heap.size wr W ∧ (W.cell? ⟨w.heap.size, 0, none⟩ = some (.int .u32 (pV : Int)) ∧ W.cell? ⟨w.heap.size, 1, none⟩ = some (.slice A f.length c)) ∧ (W.cell? ⟨w.heap.size + 1, 0, none⟩ = some (.int .u32 (pV : Int)) ∧ W.cell? ⟨w.heap.size + 1, 1, none⟩ = some (.slice B g.length d)) ∧ W.cell? ⟨w.heap.size + 1 + 1, 0, none⟩ = some (.int .u32 (pV : Int)) ∧ W.cell? ⟨w.heap.size + 1 + 1, 1, none⟩ = some (.slice (some ad) G.length cG) ∧ W.cell? ⟨w.heap.size + 1 + 1, 2, none⟩ = some (.int .u32 (pV : Int)) ∧ W.cell? ⟨w.heap.size + 1 + 1, 3, none⟩ = some (.slice AU U.length cU) ∧ W.cell? ⟨w.heap.size + 1 + 1, 4, none⟩ = some (.int .u32 (pV : Int)) ∧ W.cell? ⟨w.heap.size + 1 + 1, 5, none⟩ = some (.slice AV V.length cV)) (by kernel_rfl) (HSX.out _ HDR.out) (fun hT => ?_)
              refine wpAnyT_take _ [] (i := 0) (oi := _) (v := ?_) (fun _ _ => Iff.rfl) (fun _ _ _ h => h) rfl (by kernel_rfl) (by kernel_rfl) (by kernel_rfl) (by kernel_rfl) (by kernel_rfl) (fun _ _ _ h => h) (by assumption) (Or.inl ⟨by kernel_rfl, ?_⟩) (fun hT => ?_)
              rotate_left 1
              · intro w hSw
                (try dsimp only at hSw)
                first | (go_simp; done) | (go_simp; with_reducible rfl)
              (try simp only [Act.put, List.getElem_toArray, List.getElem_cons_zero, List.setIfInBounds_toArray, List.set_cons_zero, List.set_cons_succ])
              refine wpAnyT_take _ [] (i := 1) (oi := _) (v := ?_) (fun _ _ => Iff.rfl) (fun _ _ _ h => h) rfl (by kernel_rfl) (by kernel_rfl) (by kernel_rfl) (by kernel_rfl) (by kernel_rfl) (fun _ _ _ h => h) (by assumption) (Or.inl ⟨by kernel_rfl, ?_⟩) (fun hT => ?_)
              rotate_left 1
              · intro w hSw
                (try dsimp only at hSw)
                first | (go_simp; done) | (go_simp; with_reducible rfl)
              (try simp only [Act.put, List.getElem_toArray, List.getElem_cons_succ, List.getElem_cons_zero, List.setIfInBounds_toArray, List.set_cons_zero, List.set_cons_succ])
              refine wpAnyT_take _ [] (i := 2) (oi := _) (v := ?_) (fun _ _ => Iff.rfl) (fun _ _ _ h => h) rfl (by kernel_rfl) (by kernel_rfl) (by kernel_rfl) (by kernel_rfl) (by kernel_rfl) (fun _ _ _ h => h) (by assumption) (Or.inl ⟨by kernel_rfl, ?_⟩) (fun hT => ?_)
              rotate_left 1
              · intro w hSw
                (try dsimp only at hSw)
                first | (go_simp; done) | (go_simp; with_reducible rfl)
              (try simp only [Act.put, List.getElem_toArray, List.getElem_cons_succ, List.getElem_cons_zero, List.setIfInBounds_toArray, List.set_cons_zero, List.set_cons_succ])
              refine wpAnyT_one (i := 3) (by kernel_rfl) (oi := _) rfl (fun K hK => ?_)
              (try dsimp only [List.getElem_toArray, List.getElem_cons_succ, List.getElem_cons_zero])
              go_simp
              go_at_call 77
              (with_reducible refine (HD1.out _ HDR.out).mono ?_)
              rintro e w3 ⟨rfl, hb3⟩
              go_wp2_with (fail)
              refine hK.out _ _ (HSX.out _ hb3) (fun hT => ?_)
              clear hK K
              (try simp only [Act.put, List.getElem_toArray, List.getElem_cons_succ, List.getElem_cons_zero, List.setIfInBounds_toArray, List.set_cons_zero, List.set_cons_succ])
              refine wpAnyT_take _ [] (i := 4) (oi := _) (v := ?_) (fun _ _ => Iff.rfl) (fun _ _ _ h => h) rfl (by kernel_rfl) (by kernel_rfl) (by kernel_rfl) (by kernel_rfl) (by kernel_rfl) (fun _ _ _ h => h) (by assumption) (Or.inl ⟨by kernel_rfl, ?_⟩) (fun hT => ?_)
              rotate_left 1
              · intro w hSw
                (try dsimp only at hSw)
                first | (go_simp; done) | (go_simp; with_reducible rfl)
              (try simp only [Act.put, List.getElem_toArray, List.getElem_cons_succ, List.getElem_cons_zero, List.setIfInBounds_toArray, List.set_cons_zero, List.set_cons_succ])
              refine wpAnyT_take _ [] (i := 5) (oi := _) (v := ?_) (fun _ _ => Iff.rfl) (fun _ _ _ h => h) rfl (by kernel_rfl) (by kernel_rfl) (by kernel_rfl) (by kernel_rfl) (by kernel_rfl) (fun _ _ _ h => h) (by assumption) (Or.inl ⟨by kernel_rfl, ?_⟩) (fun hT => ?_)
              rotate_left 1
              · intro w hSw
                (try dsimp only at hSw)
                first | (go_simp; done) | (go_simp; with_reducible rfl)
              (try simp only [Act.put, List.getElem_toArray, List.getElem_cons_succ, List.getElem_cons_zero, List.setIfInBounds_toArray, List.set_cons_zero, List.set_cons_succ])
              refine wpAnyT_take _ [] (i := 6) (oi := _) (v := ?_) (fun _ _ => Iff.rfl) (fun _ _ _ h => h) rfl (by kernel_rfl) (by kernel_rfl) (by kernel_rfl) (by kernel_rfl) (by kernel_rfl) (fun _ _ _ h => h) (by assumption) (Or.inl ⟨by kernel_rfl, ?_⟩) (fun hT => ?_)
              rotate_left 1
              · intro w hSw
                (try dsimp only at hSw)
                first | (go_simp; done) | (go_simp; with_reducible rfl)
              (try simp only [Act.put, List.getElem_toArray, List.getElem_cons_succ, List.getElem_cons_zero, List.setIfInBounds_toArray, List.set_cons_zero, List.set_cons_succ])
              refine wpAnyT_take _ [] (i := 7) (oi := _) (v := ?_) (fun _ _ => Iff.rfl) (fun _ _ _ h => h) rfl (by kernel_rfl) (by kernel_rfl) (by kernel_rfl) (by kernel_rfl) (by kernel_rfl) (fun _ _ _ h => h) (by assumption) (Or.inl ⟨by kernel_rfl, ?_⟩) (fun hT => ?_)
              rotate_left 1
              · intro w hSw
                (try dsimp only at hSw)
                first | (go_simp; done) | (go_simp; with_reducible rfl)
              (try simp only [Act.put, List.getElem_toArray, List.getElem_cons_succ, List.getElem_cons_zero, List.setIfInBounds_toArray, List.set_cons_zero, List.set_cons_succ])
              refine wpAnyT_one (i := 8) (by kernel_rfl) (oi := _) rfl (fun K hK => ?_)
              (try dsimp only [List.getElem_toArray, List.getElem_cons_succ, List.getElem_cons_zero])
              go_simp
              go_at_call 77
              (with_reducible refine (HD2.out _ hb3).mono ?_)
              rintro e w4 ⟨rfl, hb4⟩
              go_wp2_with (fail)
              refine hK.out _ _ (HSX.out _ hb4) (fun hT => ?_)
              clear hK K
              (try simp only [Act.put, List.getElem_toArray, List.getElem_cons_succ, List.getElem_cons_zero, List.setIfInBounds_toArray, List.set_cons_zero, List.set_cons_succ])
              refine wpAnyT_take _ [] (i := 9) (oi := _) (v := ?_) (fun _ _ => Iff.rfl) (fun _ _ _ h => h) rfl (by kernel_rfl) (by kernel_rfl) (by kernel_rfl) (by kernel_rfl) (by kernel_rfl) (fun _ _ _ h => h) (by assumption) (Or.inl ⟨by kernel_rfl, ?_⟩) (fun hT => ?_)
              rotate_left 1
              · intro w hSw
                (try dsimp only at hSw)
                first | (go_simp; done) | (go_simp; with_reducible rfl)
              (try simp only [Act.put, List.getElem_toArray, List.getElem_cons_succ, List.getElem_cons_zero, List.setIfInBounds_toArray, List.set_cons_zero, List.set_cons_succ])
              refine wpAnyT_take _ [] (i := 10) (oi := _) (v := ?_) (fun _ _ => Iff.rfl) (fun _ _ _ h => h) rfl (by kernel_rfl) (by kernel_rfl) (by kernel_rfl) (by kernel_rfl) (by kernel_rfl) (fun _ _ _ h => h) (by assumption) (Or.inl ⟨by kernel_rfl, ?_⟩) (fun hT => ?_)
              rotate_left 1
              · intro w hSw
                (try dsimp only at hSw)
                first | (go_simp; done) | (go_simp; with_reducible rfl)
              (try simp only [Act.put, List.getElem_toArray, List.getElem_cons_succ, List.getElem_cons_zero, List.setIfInBounds_toArray, List.set_cons_zero, List.set_cons_succ])
              refine wpAnyT_take _ [] (i := 11) (oi := _) (v := undef) (fun _ _ => Iff.rfl) (fun _ _ _ h => h) rfl (by kernel_rfl) (by kernel_rfl) (by kernel_rfl) (by kernel_rfl) (by kernel_rfl) (fun _ _ _ h => h) (by assumption) (Or.inr ⟨by kernel_rfl, rfl⟩) (fun hT => ?_)
              (try simp only [Act.put, List.getElem_toArray, List.getElem_cons_succ, List.getElem_cons_zero, List.setIfInBounds_toArray, List.set_cons_zero, List.set_cons_succ])
              refine wpAnyT_take _ [] (i := 12) (oi := _) (v := undef) (fun _ _ => Iff.rfl) (fun _ _ _ h => h) rfl (by kernel_rfl) (by kernel_rfl) (by kernel_rfl) (by kernel_rfl) (by kernel_rfl) (fun _ _ _ h => h) (by assumption) (Or.inr ⟨by kernel_rfl, rfl⟩) (fun hT => ?_)
              (try simp only [Act.put, List.getElem_toArray, List.getElem_cons_succ, List.getElem_cons_zero, List.setIfInBounds_toArray, List.set_cons_zero, List.set_cons_succ])
              refine wpAnyT_take _ [] (i := 13) (oi := _) (v := undef) (fun _ _ => Iff.rfl) (fun _ _ _ h => h) rfl (by kernel_rfl) (by kernel_rfl) (by kernel_rfl) (by kernel_rfl) (by kernel_rfl) (fun _ _ _ h => h) (by assumption) (Or.inr ⟨by kernel_rfl, rfl⟩) (fun hT => ?_)
              (try simp only [Act.put, List.getElem_toArray, List.getElem_cons_succ, List.getElem_cons_zero, List.setIfInBounds_toArray, List.set_cons_zero, List.set_cons_succ])
              refine wpAnyT_take _ [] (i := 14) (oi := _) (v := undef) (fun _ _ => Iff.rfl) (fun _ _ _ h => h) rfl (by kernel_rfl) (by kernel_rfl) (by kernel_rfl) (by kernel_rfl) (by kernel_rfl) (fun _ _ _ h => h) (by assumption) (Or.inr ⟨by kernel_rfl, rfl⟩) (fun hT => ?_)
              (try simp only [Act.put, List.getElem_toArray, List.getElem_cons_succ, List.getElem_cons_zero, List.setIfInBounds_toArray, List.set_cons_zero, List.set_cons_succ])
              refine wpAnyT_take _ [] (i := 15) (oi := _) (v := undef) (fun _ _ => Iff.rfl) (fun _ _ _ h => h) rfl (by kernel_rfl) (by kernel_rfl) (by kernel_rfl) (by kernel_rfl) (by kernel_rfl) (fun _ _ _ h => h) (by assumption) (Or.inr ⟨by kernel_rfl, rfl⟩) (fun hT => ?_)
              (try simp only [Act.put, List.getElem_toArray, List.getElem_cons_succ, List.getElem_cons_zero, List.setIfInBounds_toArray, List.set_cons_zero, List.set_cons_succ])
              refine wpAnyT_take _ [] (i := 16) (oi := _) (v := undef) (fun _ _ => Iff.rfl) (fun _ _ _ h => h) rfl (by kernel_rfl) (by kernel_rfl) (by kernel_rfl) (by kernel_rfl) (by kernel_rfl) (fun _ _ _ h => h) (by assumption) (Or.inr ⟨by kernel_rfl, rfl⟩) (fun hT => ?_)
              (try simp only [Act.put, List.getElem_toArray, List.getElem_cons_succ, List.getElem_cons_zero, List.setIfInBounds_toArray, List.set_cons_zero, List.set_cons_succ])
              refine wpAnyT_take _ [] (i := 17) (oi := _) (v := undef) (fun _ _ => Iff.rfl) (fun _ _ _ h => h) rfl (by kernel_rfl) (by kernel_rfl) (by kernel_rfl) (by kernel_rfl) (by kernel_rfl) (fun _ _ _ h => h) (by assumption) (Or.inr ⟨by kernel_rfl, rfl⟩) (fun hT => ?_)
              (try simp only [Act.put, List.getElem_toArray, List.getElem_cons_succ, List.getElem_cons_zero, List.setIfInBounds_toArray, List.set_cons_zero, List.set_cons_succ])
              refine wpAnyT_take _ [] (i := 18) (oi := _) (v := undef) (fun _ _ => Iff.rfl) (fun _ _ _ h => h) rfl (by kernel_rfl) (by kernel_rfl) (by kernel_rfl) (by kernel_rfl) (by kernel_rfl) (fun _ _ _ h => h) (by assumption) (Or.inr ⟨by kernel_rfl, rfl⟩) (fun hT => ?_)
              (try simp only [Act.put, List.getElem_toArray, List.getElem_cons_succ, List.getElem_cons_zero, List.setIfInBounds_toArray, List.set_cons_zero, List.set_cons_succ])
              refine wpAnyT_take _ [] (i := 19) (oi := _) (v := undef) (fun _ _ => Iff.rfl) (fun _ _ _ h => h) rfl (by kernel_rfl) (by kernel_rfl) (by kernel_rfl) (by kernel_rfl) (by kernel_rfl) (fun _ _ _ h => h) (by assumption) (Or.inr ⟨by kernel_rfl, rfl⟩) (fun hT => ?_)
              (try simp only [Act.put, List.getElem_toArray, List.getElem_cons_succ, List.getElem_cons_zero, List.setIfInBounds_toArray, List.set_cons_zero, List.set_cons_succ])
              refine wpAnyT_take _ [] (i := 20) (oi := _) (v := undef) (fun _ _ => Iff.rfl) (fun _ _ _ h => h) rfl (by kernel_rfl) (by kernel_rfl) (by kernel_rfl) (by kernel_rfl) (by kernel_rfl) (fun _ _ _ h => h) (by assumption) (Or.inr ⟨by kernel_rfl, rfl⟩) (fun hT => ?_)
              (try simp only [Act.put, List.getElem_toArray, List.getElem_cons_succ, List.getElem_cons_zero, List.setIfInBounds_toArray, List.set_cons_zero, List.set_cons_succ])
              refine wpAnyT_take _ [] (i := 21) (oi := _) (v := undef) (fun _ _ => Iff.rfl) (fun _ _ _ h => h) rfl (by kernel_rfl) (by kernel_rfl) (by kernel_rfl) (by kernel_rfl) (by kernel_rfl) (fun _ _ _ h => h) (by assumption) (Or.inr ⟨by kernel_rfl, rfl⟩) (fun hT => ?_)
              (try simp only [Act.put, List.getElem_toArray, List.getElem_cons_succ, List.getElem_cons_zero, List.setIfInBounds_toArray, List.set_cons_zero, List.set_cons_succ])
              refine wpAnyT_take _ [] (i := 22) (oi := _) (v := undef) (fun _ _ => Iff.rfl) (fun _ _ _ h => h) rfl (by kernel_rfl) (by kernel_rfl) (by kernel_rfl) (by kernel_rfl) (by kernel_rfl) (fun _ _ _ h => h) (by assumption) (Or.inr ⟨by kernel_rfl, rfl⟩) (fun hT => ?_)
              (try simp only [Act.put, List.getElem_toArray, List.getElem_cons_succ, List.getElem_cons_zero, List.setIfInBounds_toArray, List.set_cons_zero, List.set_cons_succ])
              refine wpAnyT_take _ [] (i := 23) (oi := _) (v := undef) (fun _ _ => Iff.rfl) (fun _ _ _ h => h) rfl (by kernel_rfl) (by kernel_rfl) (by kernel_rfl) (by kernel_rfl) (by kernel_rfl) (fun _ _ _ h => h) (by assumption) (Or.inr ⟨by kernel_rfl, rfl⟩) (fun hT => ?_)
              (try simp only [Act.put, List.getElem_toArray, List.getElem_cons_succ, List.getElem_cons_zero, List.setIfInBounds_toArray, List.set_cons_zero, List.set_cons_succ])
              refine wpAnyT_take _ [] (i := 24) (oi := _) (v := undef) (fun _ _ => Iff.rfl) (fun _ _ _ h => h) rfl (by kernel_rfl) (by kernel_rfl) (by kernel_rfl) (by kernel_rfl) (by kernel_rfl) (fun _ _ _ h => h) (by assumption) (Or.inr ⟨by kernel_rfl, rfl⟩) (fun hT => ?_)
              (try simp only [Act.put, List.getElem_toArray, List.getElem_cons_succ, List.getElem_cons_zero, List.setIfInBounds_toArray, List.set_cons_zero, List.set_cons_succ])
              refine wpAnyT_take _ [] (i := 25) (oi := _) (v := undef) (fun _ _ => Iff.rfl) (fun _ _ _ h => h) rfl (by kernel_rfl) (by kernel_rfl) (by kernel_rfl) (by kernel_rfl) (by kernel_rfl) (fun _ _ _ h => h) (by assumption) (Or.inr ⟨by kernel_rfl, rfl⟩) (fun hT => ?_)
              (try simp only [Act.put, List.getElem_toArray, List.getElem_cons_succ, List.getElem_cons_zero, List.setIfInBounds_toArray, List.set_cons_zero, List.set_cons_succ])
              refine wpAnyT_take _ [] (i := 26) (oi := _) (v := ?_) (fun _ _ => Iff.rfl) (fun _ _ _ h => h) rfl (by kernel_rfl) (by kernel_rfl) (by kernel_rfl) (by kernel_rfl) (by kernel_rfl) (fun _ _ _ h => h) (by assumption) (Or.inl ⟨by kernel_rfl, ?_⟩) (fun hT => ?_)
              rotate_left 1
              · intro w hSw
                (try dsimp only at hSw)
                first | (go_simp; done) | (go_simp; with_reducible rfl)
              (try simp only [Act.put, List.getElem_toArray, List.getElem_cons_succ, List.getElem_cons_zero, List.setIfInBounds_toArray, List.set_cons_zero, List.set_cons_succ])
              refine wpAnyT_take _ [] (i := 27) (oi := _) (v := ?_) (fun _ _ => Iff.rfl) (fun _ _ _ h => h) rfl (by kernel_rfl) (by kernel_rfl) (by kernel_rfl) (by kernel_rfl) (by kernel_rfl) (fun _ _ _ h => h) (by assumption) (Or.inl ⟨by kernel_rfl, ?_⟩) (fun hT => ?_)
              rotate_left 1
              · intro w hSw
                (try dsimp only at hSw)
                first | (go_simp; done) | (go_simp; with_reducible rfl)
              (try simp only [Act.put, List.getElem_toArray, List.getElem_cons_succ, List.getElem_cons_zero, List.setIfInBounds_toArray, List.set_cons_zero, List.set_cons_succ])
              refine wpAnyT_done (by kernel_rfl) ?_ _
              refine NoPanic.normal ?_
              go_wp2
              go_ret
              exact ⟨⟨_, rfl, HG.out _ HV3.out HMO.out⟩, HWB.out.trans (hb4.mono HWB.out.size)⟩
            | true =>
              go_upto_region 9 with (fail)
              refine wp_region_noPanic ?_
              refine wp_region_tail (fun (_ : Array Bool) (W : World) => Below wr.heap.size wr W ∧ (W.cell? ⟨w.heap.size, 0, none⟩ = some (.int .u32 (pV : Int)) ∧ W.cell? ⟨w.heap.size, 1, none⟩ = some (.slice A f.length c)) ∧ (W.cell? ⟨w.heap.size + 1, 0, none⟩ = some (.int .u32 (pV : Int)) ∧ W.cell? ⟨w.heap.size + 1, 1, none⟩ = some (.slice B g.length d)) ∧ W.cell? ⟨w.heap.size + 1 + 1, 0, none⟩ = some (.int .u32 (pV : Int)) ∧ W.cell? ⟨w.heap.size + 1 + 1, 1, none⟩ = some (.slice (some ad) G.length cG) ∧ W.cell? ⟨w.heap.size + 1 + 1, 2, none⟩ = some (.int .u32 (pV : Int)) ∧ W.cell? ⟨w.heap.size + 1 + 1, 3, none⟩ = some (.slice AU U.length cU) ∧ W.cell? ⟨w.heap.size + 1 + 1, 4, none⟩ = some (.int .u32 (pV : Int)) ∧ W.cell? ⟨w.heap.size + 1 + 1, 5, none⟩ = some (.slice AV V.length cV)) (by kernel_rfl) (HSX.out _ HDR.out) (fun hT => ?_)
              refine wpAnyT_take _ [] (i := 0) (oi := _) (v := ?_) (fun _ _ => Iff.rfl) (fun _ _ _ h => h) rfl (by kernel_rfl) (by kernel_rfl) (by kernel_rfl) (by kernel_rfl) (by kernel_rfl) (fun _ _ _ h => h) (by assumption) (Or.inl ⟨by kernel_rfl, ?_⟩) (fun hT => ?_)
              rotate_left 1
              · intro w hSw
                (try dsimp only at hSw)
                first | (go_simp; done) | (go_simp; with_reducible rfl)
              (try simp only [Act.put, List.getElem_toArray, List.getElem_cons_zero, List.setIfInBounds_toArray, List.set_cons_zero, List.set_cons_succ])
              refine wpAnyT_take _ [] (i := 1) (oi := _) (v := ?_) (fun _ _ => Iff.rfl) (fun _ _ _ h => h) rfl (by kernel_rfl) (by kernel_rfl) (by kernel_rfl) (by kernel_rfl) (by kernel_rfl) (fun _ _ _ h => h) (by assumption) (Or.inl ⟨by kernel_rfl, ?_⟩) (fun hT => ?_)
              rotate_left 1
              · intro w hSw
                (try dsimp only at hSw)
                first | (go_simp; done) | (go_simp; with_reducible rfl)
              (try simp only [Act.put, List.getElem_toArray, List.getElem_cons_succ, List.getElem_cons_zero, List.setIfInBounds_toArray, List.set_cons_zero, List.set_cons_succ])
              refine wpAnyT_take _ [] (i := 2) (oi := _) (v := ?_) (fun _ _ => Iff.rfl) (fun _ _ _ h => h) rfl (by kernel_rfl) (by kernel_rfl) (by kernel_rfl) (by kernel_rfl) (by kernel_rfl) (fun _ _ _ h => h) (by assumption) (Or.inl ⟨by kernel_rfl, ?_⟩) (fun hT => ?_)
              rotate_left 1
              · intro w hSw
                (try dsimp only at hSw)
                first | (go_simp; done) | (go_simp; with_reducible rfl)
              (try simp only [Act.put, List.getElem_toArray, List.getElem_cons_succ, List.getElem_cons_zero, List.setIfInBounds_toArray, List.set_cons_zero, List.set_cons_succ])
              refine wpAnyT_one (i := 3) (by kernel_rfl) (oi := _) rfl (fun K hK => ?_)
              (try dsimp only [List.getElem_toArray, List.getElem_cons_succ, List.getElem_cons_zero])
              go_simp
              go_at_call 77
              (with_reducible refine (HD1.out _ HDR.out).mono ?_)
              rintro e w3 ⟨rfl, hb3⟩
              go_wp2_with (fail)
              refine hK.out _ _ (HSX.out _ hb3) (fun hT => ?_)
              clear hK K
              (try simp only [Act.put, List.getElem_toArray, List.getElem_cons_succ, List.getElem_cons_zero, List.setIfInBounds_toArray, List.set_cons_zero, List.set_cons_succ])
              refine wpAnyT_take _ [] (i := 4) (oi := _) (v := ?_) (fun _ _ => Iff.rfl) (fun _ _ _ h => h) rfl (by kernel_rfl) (by kernel_rfl) (by kernel_rfl) (by kernel_rfl) (by kernel_rfl) (fun _ _ _ h => h) (by assumption) (Or.inl ⟨by kernel_rfl, ?_⟩) (fun hT => ?_)
              rotate_left 1
              · intro w hSw
                (try dsimp only at hSw)
                first | (go_simp; done) | (go_simp; with_reducible rfl)
              (try simp only [Act.put, List.getElem_toArray, List.getElem_cons_succ, List.getElem_cons_zero, List.setIfInBounds_toArray, List.set_cons_zero, List.set_cons_succ])
              refine wpAnyT_take _ [] (i := 5) (oi := _) (v := ?_) (fun _ _ => Iff.rfl) (fun _ _ _ h => h) rfl (by kernel_rfl) (by kernel_rfl) (by kernel_rfl) (by kernel_rfl) (by kernel_rfl) (fun _ _ _ h => h) (by assumption) (Or.inl ⟨by kernel_rfl, ?_⟩) (fun hT => ?_)
              rotate_left 1
              · intro w hSw
                (try dsimp only at hSw)
                first | (go_simp; done) | (go_simp; with_reducible rfl)
              (try simp only [Act.put, List.getElem_toArray, List.getElem_cons_succ, List.getElem_cons_zero, List.setIfInBounds_toArray, List.set_cons_zero, List.set_cons_succ])
              refine wpAnyT_take _ [] (i := 6) (oi := _) (v := ?_) (fun _ _ => Iff.rfl) (fun _ _ _ h => h) rfl (by kernel_rfl) (by kernel_rfl) (by kernel_rfl) (by kernel_rfl) (by kernel_rfl) (fun _ _ _ h => h) (by assumption) (Or.inl ⟨by kernel_rfl, ?_⟩) (fun hT => ?_)
              rotate_left 1
              · intro w hSw
                (try dsimp only at hSw)
                first | (go_simp; done) | (go_simp; with_reducible rfl)
              (try simp only [Act.put, List.getElem_toArray, List.getElem_cons_succ, List.getElem_cons_zero, List.setIfInBounds_toArray, List.set_cons_zero, List.set_cons_succ])
              refine wpAnyT_take _ [] (i := 7) (oi := _) (v := ?_) (fun _ _ => Iff.rfl) (fun _ _ _ h => h) rfl (by kernel_rfl) (by kernel_rfl) (by kernel_rfl) (by kernel_rfl) (by kernel_rfl) (fun _ _ _ h => h) (by assumption) (Or.inl ⟨by kernel_rfl, ?_⟩) (fun hT => ?_)
              rotate_left 1
              · intro w hSw
                (try dsimp only at hSw)
                first | (go_simp; done) | (go_simp; with_reducible rfl)
              (try simp only [Act.put, List.getElem_toArray, List.getElem_cons_succ, List.getElem_cons_zero, List.setIfInBounds_toArray, List.set_cons_zero, List.set_cons_succ])
              refine wpAnyT_one (i := 8) (by kernel_rfl) (oi := _) rfl (fun K hK => ?_)
              (try dsimp only [List.getElem_toArray, List.getElem_cons_succ, List.getElem_cons_zero])
              go_simp
              go_at_call 77
              (with_reducible refine (HD2.out _ hb3).mono ?_)
              rintro e w4 ⟨rfl, hb4⟩
              go_wp2_with (fail)
              refine hK.out _ _ (HSX.out _ hb4) (fun hT => ?_)
              clear hK K
              (try simp only [Act.put, List.getElem_toArray, List.getElem_cons_succ, List.getElem_cons_zero, List.setIfInBounds_toArray, List.set_cons_zero, List.set_cons_succ])
              refine wpAnyT_take _ [] (i := 9) (oi := _) (v := ?_) (fun _ _ => Iff.rfl) (fun _ _ _ h => h) rfl (by kernel_rfl) (by kernel_rfl) (by kernel_rfl) (by kernel_rfl) (by kernel_rfl) (fun _ _ _ h => h) (by assumption) (Or.inl ⟨by kernel_rfl, ?_⟩) (fun hT => ?_)
              rotate_left 1
              · intro w hSw
                (try dsimp only at hSw)
                first | (go_simp; done) | (go_simp; with_reducible rfl)
              (try simp only [Act.put, List.getElem_toArray, List.getElem_cons_succ, List.getElem_cons_zero, List.setIfInBounds_toArray, List.set_cons_zero, List.set_cons_succ])
              refine wpAnyT_take _ [] (i := 10) (oi := _) (v := ?_) (fun _ _ => Iff.rfl) (fun _ _ _ h => h) rfl (by kernel_rfl) (by kernel_rfl) (by kernel_rfl) (by kernel_rfl) (by kernel_rfl) (fun _ _ _ h => h) (by assumption) (Or.inl ⟨by kernel_rfl, ?_⟩) (fun hT => ?_)
              rotate_left 1
              · intro w hSw
                (try dsimp only at hSw)
                first | (go_simp; done) | (go_simp; with_reducible rfl)
              (try simp only [Act.put, List.getElem_toArray, List.getElem_cons_succ, List.getElem_cons_zero, List.setIfInBounds_toArray, List.set_cons_zero, List.set_cons_succ])
              refine wpAnyT_take _ [] (i := 11) (oi := _) (v := ?_) (fun _ _ => Iff.rfl) (fun _ _ _ h => h) rfl (by kernel_rfl) (by kernel_rfl) (by kernel_rfl) (by kernel_rfl) (by kernel_rfl) (fun _ _ _ h => h) (by assumption) (Or.inl ⟨by kernel_rfl, ?_⟩) (fun hT => ?_)
              rotate_left 1
              · intro w hSw
                (try dsimp only at hSw)
                first | (go_simp; done) | (go_simp; with_reducible rfl)
              (try simp only [Act.put, List.getElem_toArray, List.getElem_cons_succ, List.getElem_cons_zero, List.setIfInBounds_toArray, List.set_cons_zero, List.set_cons_succ])
              refine wpAnyT_take _ [] (i := 12) (oi := _) (v := ?_) (fun _ _ => Iff.rfl) (fun _ _ _ h => h) rfl (by kernel_rfl) (by kernel_rfl) (by kernel_rfl) (by kernel_rfl) (by kernel_rfl) (fun _ _ _ h => h) (by assumption) (Or.inl ⟨by kernel_rfl, ?_⟩) (fun hT => ?_)
              rotate_left 1
              · intro w hSw
                (try dsimp only at hSw)
                first | (go_simp; done) | (go_simp; with_reducible rfl)
              (try simp only [Act.put, List.getElem_toArray, List.getElem_cons_succ, List.getElem_cons_zero, List.setIfInBounds_toArray, List.set_cons_zero, List.set_cons_succ])
              refine wpAnyT_take _ [] (i := 13) (oi := _) (v := ?_) (fun _ _ => Iff.rfl) (fun _ _ _ h => h) rfl (by kernel_rfl) (by kernel_rfl) (by kernel_rfl) (by kernel_rfl) (by kernel_rfl) (fun _ _ _ h => h) (by assumption) (Or.inl ⟨by kernel_rfl, ?_⟩) (fun hT => ?_)
              rotate_left 1
              · intro w hSw
                (try dsimp only at hSw)
                first | (go_simp; done) | (go_simp; with_reducible rfl)
              (try simp only [Act.put, List.getElem_toArray, List.getElem_cons_succ, List.getElem_cons_zero, List.setIfInBounds_toArray, List.set_cons_zero, List.set_cons_succ])
              refine wpAnyT_take _ [] (i := 14) (oi := _) (v := ?_) (fun _ _ => Iff.rfl) (fun _ _ _ h => h) rfl (by kernel_rfl) (by kernel_rfl) (by kernel_rfl) (by kernel_rfl) (by kernel_rfl) (fun _ _ _ h => h) (by assumption) (Or.inl ⟨by kernel_rfl, ?_⟩) (fun hT => ?_)
              rotate_left 1
              · intro w hSw
                (try dsimp only at hSw)
                first | (go_simp; done) | (go_simp; with_reducible rfl)
              (try simp only [Act.put, List.getElem_toArray, List.getElem_cons_succ, List.getElem_cons_zero, List.setIfInBounds_toArray, List.set_cons_zero, List.set_cons_succ])
              refine wpAnyT_take _ [] (i := 15) (oi := _) (v := ?_) (fun _ _ => Iff.rfl) (fun _ _ _ h => h) rfl (by kernel_rfl) (by kernel_rfl) (by kernel_rfl) (by kernel_rfl) (by kernel_rfl) (fun _ _ _ h => h) (by assumption) (Or.inl ⟨by kernel_rfl, ?_⟩) (fun hT => ?_)
              rotate_left 1
              · intro w hSw
                (try dsimp only at hSw)
                first | (go_simp; done) | (go_simp; with_reducible rfl)
              (try simp only [Act.put, List.getElem_toArray, List.getElem_cons_succ, List.getElem_cons_zero, List.setIfInBounds_toArray, List.set_cons_zero, List.set_cons_succ])
              refine wpAnyT_take _ [] (i := 16) (oi := _) (v := ?_) (fun _ _ => Iff.rfl) (fun _ _ _ h => h) rfl (by kernel_rfl) (by kernel_rfl) (by kernel_rfl) (by kernel_rfl) (by kernel_rfl) (fun _ _ _ h => h) (by assumption) (Or.inl ⟨by kernel_rfl, ?_⟩) (fun hT => ?_)
              rotate_left 1
              · intro w hSw
                (try dsimp only at hSw)
                first | (go_simp; done) | (go_simp; with_reducible rfl)
              (try simp only [Act.put, List.getElem_toArray, List.getElem_cons_succ, List.getElem_cons_zero, List.setIfInBounds_toArray, List.set_cons_zero, List.set_cons_succ])
              refine wpAnyT_take _ [] (i := 17) (oi := _) (v := ?_) (fun _ _ => Iff.rfl) (fun _ _ _ h => h) rfl (by kernel_rfl) (by kernel_rfl) (by kernel_rfl) (by kernel_rfl) (by kernel_rfl) (fun _ _ _ h => h) (by assumption) (Or.inl ⟨by kernel_rfl, ?_⟩) (fun hT => ?_)
              rotate_left 1
              · intro w hSw
                (try dsimp only at hSw)
                first | (go_simp; done) | (go_simp; with_reducible rfl)
              (try simp only [Act.put, List.getElem_toArray, List.getElem_cons_succ, List.getElem_cons_zero, List.setIfInBounds_toArray, List.set_cons_zero, List.set_cons_succ])
              refine wpAnyT_take _ [] (i := 19) (oi := _) (v := ?_) (fun _ _ => Iff.rfl) (fun _ _ _ h => h) rfl (by kernel_rfl) (by kernel_rfl) (by kernel_rfl) (by kernel_rfl) (by kernel_rfl) (fun _ _ _ h => h) (by assumption) (Or.inl ⟨by kernel_rfl, ?_⟩) (fun hT => ?_)
              rotate_left 1
              · intro w hSw
                (try dsimp only at hSw)
                first | (go_simp; done) | (go_simp; with_reducible rfl)
              (try simp only [Act.put, List.getElem_toArray, List.getElem_cons_succ, List.getElem_cons_zero, List.setIfInBounds_toArray, List.set_cons_zero, List.set_cons_succ])
              refine wpAnyT_take _ [] (i := 20) (oi := _) (v := ?_) (fun _ _ => Iff.rfl) (fun _ _ _ h => h) rfl (by kernel_rfl) (by kernel_rfl) (by kernel_rfl) (by kernel_rfl) (by kernel_rfl) (fun _ _ _ h => h) (by assumption) (Or.inl ⟨by kernel_rfl, ?_⟩) (fun hT => ?_)
              rotate_left 1
              · intro w hSw
                (try dsimp only at hSw)
                first | (go_simp; done) | (go_simp; with_reducible rfl)
              (try simp only [Act.put, List.getElem_toArray, List.getElem_cons_succ, List.getElem_cons_zero, List.setIfInBounds_toArray, List.set_cons_zero, List.set_cons_succ])
              refine wpAnyT_take _ [] (i := 21) (oi := _) (v := ?_) (fun _ _ => Iff.rfl) (fun _ _ _ h => h) rfl (by kernel_rfl) (by kernel_rfl) (by kernel_rfl) (by kernel_rfl) (by kernel_rfl) (fun _ _ _ h => h) (by assumption) (Or.inl ⟨by kernel_rfl, ?_⟩) (fun hT => ?_)
              rotate_left 1
              · intro w hSw
                (try dsimp only at hSw)
                first | (go_simp; done) | (go_simp; with_reducible rfl)
              (try simp only [Act.put, List.getElem_toArray, List.getElem_cons_succ, List.getElem_cons_zero, List.setIfInBounds_toArray, List.set_cons_zero, List.set_cons_succ])
              refine wpAnyT_one (i := 18) (by kernel_rfl) (oi := _) rfl (fun K hK => ?_)
              (try dsimp only [List.getElem_toArray, List.getElem_cons_succ, List.getElem_cons_zero])
              go_simp
              go_at_call 34
              (with_reducible refine (HM1.out _ hb4).mono ?_)
              rintro e w5 ⟨M1A, m1c, rfl, hM1, hm1c, hb5, hc5⟩
              go_wp2_with (fail)
              refine hK.out _ _ (HSX.out _ hb5) (fun hT => ?_)
              clear hK K
              (try simp only [Act.put, List.getElem_toArray, List.getElem_cons_succ, List.getElem_cons_zero, List.setIfInBounds_toArray, List.set_cons_zero, List.set_cons_succ])
              refine wpAnyT_one (i := 22) (by kernel_rfl) (oi := _) rfl (fun K hK => ?_)
              (try dsimp only [List.getElem_toArray, List.getElem_cons_succ, List.getElem_cons_zero])
              go_simp
              go_at_call 34
              (with_reducible refine (HM2.out _ hb5).mono ?_)
              rintro e w6 ⟨M2A, m2c, rfl, hM2, hm2c, hb6, hc6⟩
              go_wp2_with (fail)
              refine hK.out _ _ (HSX.out _ hb6) (fun hT => ?_)
              clear hK K
              (try simp only [Act.put, List.getElem_toArray, List.getElem_cons_succ, List.getElem_cons_zero, List.setIfInBounds_toArray, List.set_cons_zero, List.set_cons_succ])
              refine wpAnyT_one (i := 23) (by kernel_rfl) (oi := _) rfl (fun K hK => ?_)
              (try dsimp only [List.getElem_toArray, List.getElem_cons_succ, List.getElem_cons_zero])
              go_simp
              refine hK.out _ _ (HSX.out _ (hb6.alloc hb6.size _)) (fun hT => ?_)
              clear hK K
              (try simp only [Act.put, List.getElem_toArray, List.getElem_cons_succ, List.getElem_cons_zero, List.setIfInBounds_toArray, List.set_cons_zero, List.set_cons_succ])
              refine wpAnyT_one (i := 24) (by kernel_rfl) (oi := _) rfl (fun K hK => ?_)
              (try dsimp only [List.getElem_toArray, List.getElem_cons_succ, List.getElem_cons_zero])
              go_simp
              go_at_call 78
              (with_reducible refine (HSU.out _ _ _ _ _ _ hb6 (hM1.below hc6) hM2).mono ?_)
              rintro e w7 ⟨SA, sc, rfl, hS, hsc, hb7⟩
              go_wp2_with (fail)
              refine hK.out _ _ (HSX.out _ hb7) (fun hT => ?_)
              clear hK K
              (try simp only [Act.put, List.getElem_toArray, List.getElem_cons_succ, List.getElem_cons_zero, List.setIfInBounds_toArray, List.set_cons_zero, List.set_cons_succ])
              refine wpAnyT_one (i := 25) (by kernel_rfl) (oi := _) rfl (fun K hK => ?_)
              (try dsimp only [List.getElem_toArray, List.getElem_cons_succ, List.getElem_cons_zero])
              go_simp
              go_at_call 15
              (with_reducible refine (HEQ.out _ _ _ hb7 hS).mono ?_)
              rintro e w8 ⟨rfl, hb8⟩
              go_wp2_with (fail)
              refine hK.out _ _ (HSX.out _ hb8) (fun hT => ?_)
              clear hK K
              (try simp only [Act.put, List.getElem_toArray, List.getElem_cons_succ, List.getElem_cons_zero, List.setIfInBounds_toArray, List.set_cons_zero, List.set_cons_succ])
              refine wpAnyT_take _ [] (i := 26) (oi := _) (v := ?_) (fun _ _ => Iff.rfl) (fun _ _ _ h => h) rfl (by kernel_rfl) (by kernel_rfl) (by kernel_rfl) (by kernel_rfl) (by kernel_rfl) (fun _ _ _ h => h) (by assumption) (Or.inl ⟨by kernel_rfl, ?_⟩) (fun hT => ?_)
              rotate_left 1
              · intro w hSw
                (try dsimp only at hSw)
                first | (go_simp; done) | (go_simp; with_reducible rfl)
              (try simp only [Act.put, List.getElem_toArray, List.getElem_cons_succ, List.getElem_cons_zero, List.setIfInBounds_toArray, List.set_cons_zero, List.set_cons_succ])
              refine wpAnyT_take _ [] (i := 27) (oi := _) (v := ?_) (fun _ _ => Iff.rfl) (fun _ _ _ h => h) rfl (by kernel_rfl) (by kernel_rfl) (by kernel_rfl) (by kernel_rfl) (by kernel_rfl) (fun _ _ _ h => h) (by assumption) (Or.inl ⟨by kernel_rfl, ?_⟩) (fun hT => ?_)
              rotate_left 1
              · intro w hSw
                (try dsimp only at hSw)
                first | (go_simp; done) | (go_simp; with_reducible rfl)
              (try simp only [Act.put, List.getElem_toArray, List.getElem_cons_succ, List.getElem_cons_zero, List.setIfInBounds_toArray, List.set_cons_zero, List.set_cons_succ])
              refine wpAnyT_done (by kernel_rfl) ?_ _
              refine NoPanic.normal ?_
              go_wp2
              go_ret
              exact ⟨⟨_, rfl, HG.out _ HV3.out HMO.out⟩, HWB.out.trans (hb8.mono HWB.out.size)⟩
        · have i3 : (z != 1) = true := by rw [bne_iff_ne]; exact hz1
          go_wp2
          go_ret
          exact toldG_no HMO.out HWB.out
end Go.Proofs.YtlndchmpnnlacaaDoor
