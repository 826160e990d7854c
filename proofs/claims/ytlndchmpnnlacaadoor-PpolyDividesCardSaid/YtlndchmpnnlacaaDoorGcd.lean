/- Contract: Gcd. -/
import Derived.Test.YtlndchmpnnlacaaDoorTail
namespace Go.Proofs.YtlndchmpnnlacaaDoor
open Go.RowKit

/-- A block of three polynomials over p. -/
def Six (W : World) (b p : Nat) (u v t : Value) : Prop :=
  (W.cell? ⟨b, 0, none⟩ = some (.int .u32 (p : Int)) ∧ W.cell? ⟨b, 1, none⟩ = some u ∧ W.cell? ⟨b, 2, none⟩ = some (.int .u32 (p : Int)) ∧ W.cell? ⟨b, 3, none⟩ = some v ∧ W.cell? ⟨b, 4, none⟩ = some (.int .u32 (p : Int)) ∧ W.cell? ⟨b, 5, none⟩ = some t) ∧
  (W.frozen? ⟨b, 0, none⟩ = false ∧ W.frozen? ⟨b, 1, none⟩ = false ∧ W.frozen? ⟨b, 2, none⟩ = false ∧ W.frozen? ⟨b, 3, none⟩ = false ∧ W.frozen? ⟨b, 4, none⟩ = false ∧ W.frozen? ⟨b, 5, none⟩ = false)
/-- A block of six cells that may be written. -/
def Room6 (W : World) (b : Nat) : Prop :=
  (∃ u0 u1 u2 u3 u4 u5, W.cell? ⟨b, 0, none⟩ = some u0 ∧ W.cell? ⟨b, 1, none⟩ = some u1 ∧ W.cell? ⟨b, 2, none⟩ = some u2 ∧ W.cell? ⟨b, 3, none⟩ = some u3 ∧ W.cell? ⟨b, 4, none⟩ = some u4 ∧ W.cell? ⟨b, 5, none⟩ = some u5) ∧
  (W.frozen? ⟨b, 0, none⟩ = false ∧ W.frozen? ⟨b, 1, none⟩ = false ∧ W.frozen? ⟨b, 2, none⟩ = false ∧ W.frozen? ⟨b, 3, none⟩ = false ∧ W.frozen? ⟨b, 4, none⟩ = false ∧ W.frozen? ⟨b, 5, none⟩ = false)
theorem Six.up {W W' : World} {b p B : Nat} {u v t : Value} (h : Six W b p u v t) (hb : Below B W W') (hB : b < B) : Six W' b p u v t := by
  obtain ⟨⟨c0, c1, c2, c3, c4, c5⟩, ⟨f0, f1, f2, f3, f4, f5⟩⟩ := h
  have c : ∀ o, W'.cell? ⟨b, o, none⟩ = W.cell? ⟨b, o, none⟩ := fun o => hb.cell (p := ⟨b, o, none⟩) hB
  have f : ∀ o, W'.frozen? ⟨b, o, none⟩ = W.frozen? ⟨b, o, none⟩ := fun o => hb.frozen (p := ⟨b, o, none⟩) hB
  exact ⟨⟨(c 0).trans c0, (c 1).trans c1, (c 2).trans c2, (c 3).trans c3, (c 4).trans c4, (c 5).trans c5⟩, ⟨(f 0).trans f0, (f 1).trans f1, (f 2).trans f2, (f 3).trans f3, (f 4).trans f4, (f 5).trans f5⟩⟩
theorem Room6.up {W W' : World} {b B : Nat} (h : Room6 W b) (hb : Below B W W') (hB : b < B) : Room6 W' b := by
  obtain ⟨⟨u0, u1, u2, u3, u4, u5, c0, c1, c2, c3, c4, c5⟩, ⟨f0, f1, f2, f3, f4, f5⟩⟩ := h
  have c : ∀ o, W'.cell? ⟨b, o, none⟩ = W.cell? ⟨b, o, none⟩ := fun o => hb.cell (p := ⟨b, o, none⟩) hB
  have f : ∀ o, W'.frozen? ⟨b, o, none⟩ = W.frozen? ⟨b, o, none⟩ := fun o => hb.frozen (p := ⟨b, o, none⟩) hB
  exact ⟨⟨u0, u1, u2, u3, u4, u5, (c 0).trans c0, (c 1).trans c1, (c 2).trans c2, (c 3).trans c3, (c 4).trans c4, (c 5).trans c5⟩, ⟨(f 0).trans f0, (f 1).trans f1, (f 2).trans f2, (f 3).trans f3, (f 4).trans f4, (f 5).trans f5⟩⟩
theorem Six.room {W : World} {b p : Nat} {u v t : Value} (h : Six W b p u v t) : Room6 W b := ⟨⟨_, _, _, _, _, _, h.1⟩, h.2⟩
/-- The six cells, written anew. -/
@[reducible] def put6 (W : World) (b p : Nat) (u v t : Value) : World := (((((W.setCell ⟨b, 0, none⟩ (.int .u32 (p : Int))).setCell ⟨b, 1, none⟩ u).setCell ⟨b, 2, none⟩ (.int .u32 (p : Int))).setCell ⟨b, 3, none⟩ v).setCell ⟨b, 4, none⟩ (.int .u32 (p : Int))).setCell ⟨b, 5, none⟩ t
theorem sixF {W : World} {p : Addr} {v : Value} {q : Addr} (h : W.frozen? q = false) : (W.setCell p v).frozen? q = false := by simpa using h
theorem Room6.put {W : World} {b p : Nat} {u v t : Value} (h : Room6 W b) : Six (put6 W b p u v t) b p u v t := by
  obtain ⟨⟨u0, u1, u2, u3, u4, u5, c0, c1, c2, c3, c4, c5⟩, ⟨f0, f1, f2, f3, f4, f5⟩⟩ := h
  unfold put6
  refine ⟨⟨?_, ?_, ?_, ?_, ?_, ?_⟩, ⟨?_, ?_, ?_, ?_, ?_, ?_⟩⟩ <;> simp [*, World.cell?_setCell_other, World.cell?_setCell_same']
theorem Six.put_other {W : World} {b b' p p' : Nat} {u v t u' v' t' : Value} (h : Six W b p u v t) (hn : b ≠ b') : Six (put6 W b' p' u' v' t') b p u v t := by
  obtain ⟨⟨c0, c1, c2, c3, c4, c5⟩, ⟨f0, f1, f2, f3, f4, f5⟩⟩ := h
  unfold put6
  have hn' := hn.symm
  refine ⟨⟨?_, ?_, ?_, ?_, ?_, ?_⟩, ⟨?_, ?_, ?_, ?_, ?_, ?_⟩⟩ <;> simp [*, World.cell?_setCell_other]
theorem Room6.put_other {W : World} {b b' p' : Nat} {u' v' t' : Value} (h : Room6 W b) (hn : b ≠ b') : Room6 (put6 W b' p' u' v' t') b := by
  obtain ⟨⟨u0, u1, u2, u3, u4, u5, c0, c1, c2, c3, c4, c5⟩, ⟨f0, f1, f2, f3, f4, f5⟩⟩ := h
  unfold put6
  have hn' := hn.symm
  refine ⟨⟨u0, u1, u2, u3, u4, u5, ?_, ?_, ?_, ?_, ?_, ?_⟩, ⟨?_, ?_, ?_, ?_, ?_, ?_⟩⟩ <;> simp [*, World.cell?_setCell_other]
theorem put6_below {w W : World} {B b p : Nat} {u v t : Value} (h : Below B w W) (hb : B ≤ b) : Below B w (put6 W b p u v t) := by
  unfold put6
  exact (((((h.setCell hb _).setCell hb _).setCell hb _).setCell hb _).setCell hb _).setCell hb _
theorem put6_size (W : World) (b p : Nat) (u v t : Value) : (put6 W b p u v t).heap.size = W.heap.size := by simp [put6, World.setCell]
theorem KO.put6 {k : IntKind} {W : World} {bs : List Nat} {A : Option Addr} {xs : List Int} {b p : Nat} {u v t : Value} (h : KO k W bs A xs) (hb : b ∈ bs) : KO k (put6 W b p u v t) bs A xs := by
  unfold Go.Proofs.YtlndchmpnnlacaaDoor.put6
  exact (((((h.setCell hb).setCell hb).setCell hb).setCell hb).setCell hb).setCell hb
theorem room6_new (W : World) (T : TypeId) : Room6 (W.alloc (.cells #[.int .u32 0, .slice none 0 0, .int .u32 0, .slice none 0 0, .int .u32 0, .slice none 0 0] T)) W.heap.size :=
  ⟨⟨.int .u32 0, .slice none 0 0, .int .u32 0, .slice none 0 0, .int .u32 0, .slice none 0 0, by go_cell, by go_cell, by go_cell, by go_cell, by go_cell, by go_cell⟩, by go_cell, by go_cell, by go_cell, by go_cell, by go_cell, by go_cell⟩
/-- A call hands back three polynomials. -/
def MadeB (p : Nat) (G U V : List Int) (w : World) (e : Ending) (w' : World) : Prop :=
  ∃ A a B b C c, e = .returned (.agg #[.int .u32 (p : Int), .slice A G.length a, .int .u32 (p : Int), .slice B U.length b, .int .u32 (p : Int), .slice C V.length c]) ∧
    KF .u32 w' w.heap.size w'.heap.size A G ∧ KF .u32 w' w.heap.size w'.heap.size B U ∧ KF .u32 w' w.heap.size w'.heap.size C V ∧ G.length ≤ a ∧ U.length ≤ b ∧ V.length ≤ c ∧ Below w.heap.size w w'
/-- What a call of constant leaves, beside a block that is made: W0 the world before either. -/
def ConM (p n : Nat) (W0 : World) (m : Nat) (e : Ending) (w' : World) : Prop :=
  ∃ A2 c2, e = .returned (.agg #[.int .u32 (p : Int), .slice A2 1 c2]) ∧ KF .u32 w' m w'.heap.size A2 [1] ∧ 1 ≤ c2 ∧ m ≤ w'.heap.size ∧ Below n W0 w'
theorem con_one (p n : Nat) (W0 : World) (hn : W0.heap.size = n) (hp : p ≤ 2147483647) (hpr : PrimeN p) :
    Calls Tryd.prog 75 #[.int .u32 (p : Int), .int .u32 1] W0.drew fun e w' => ConM p n W0 n e w' := by
  have := constant_any p 1 W0.drew hp hpr.1
  rw [show conP p ((1 : Nat) : Int) = [1] from (trim_one hpr.1).symm] at this
  refine this.mono ?_
  rintro e w' ⟨A2, c2, rfl, hA, hc, hb⟩
  subst hn
  exact ⟨A2, c2, rfl, hA, hc, hb.size, below_undrew hb⟩
theorem con_two (p n : Nat) (W0 : World) (T : TypeId) (hn : W0.heap.size = n) (hp : p ≤ 2147483647) (hpr : PrimeN p) :
    Calls Tryd.prog 75 #[.int .u32 (p : Int), .int .u32 1] (W0.alloc (.cells #[.int .u32 0, .slice none 0 0, .int .u32 0, .slice none 0 0, .int .u32 0, .slice none 0 0] T)).drew fun e w' => ConM p n W0 (n + 1) e w' ∧ Room6 w' n := by
  have := constant_any p 1 (W0.alloc (.cells #[.int .u32 0, .slice none 0 0, .int .u32 0, .slice none 0 0, .int .u32 0, .slice none 0 0] T)).drew hp hpr.1
  rw [show conP p ((1 : Nat) : Int) = [1] from (trim_one hpr.1).symm] at this
  refine this.mono ?_
  rintro e w' ⟨A2, c2, rfl, hA, hc, hb⟩
  subst hn
  have hs : (W0.alloc (.cells #[.int .u32 0, .slice none 0 0, .int .u32 0, .slice none 0 0, .int .u32 0, .slice none 0 0] T)).drew.heap.size = W0.heap.size + 1 := by simp
  rw [hs] at hA hb
  refine ⟨⟨A2, c2, rfl, hA, hc, ?_, ?_⟩, ?_⟩
  · have := hb.size; rw [hs] at this; exact this
  · exact ((Below.refl W0.heap.size W0).alloc (Nat.le_refl _) _).trans ((below_undrew hb).mono (Nat.le_succ _))
  · exact (room6_new W0 T).up (W' := w') (B := W0.heap.size + 1) (below_undrew hb) (Nat.lt_succ_self _)
/-- A block that has come up, with what lies in it. -/
def SixM (n : Nat) (W0 W : World) (bx : Nat) (A2 : Option Addr) : Prop :=
  KO .u32 W [bx] A2 [1] ∧ KF .u32 W n W.heap.size A2 [1] ∧ n ≤ bx ∧ bx < W.heap.size ∧ Below n W0 W
theorem end_one {p n : Nat} {W0 w2 : World} {A2 : Option Addr} {u v t : Value} {T : TypeId} (hA : KF .u32 w2 n w2.heap.size A2 [1]) (hs : n ≤ w2.heap.size) (hb : Below n W0 w2) :
    Six (w2.alloc (.cells #[.int .u32 (p : Int), u, .int .u32 (p : Int), v, .int .u32 (p : Int), t] T)) w2.heap.size p u v t ∧ SixM n W0 (w2.alloc (.cells #[.int .u32 (p : Int), u, .int .u32 (p : Int), v, .int .u32 (p : Int), t] T)) w2.heap.size A2 := by
  have hb2 : Below w2.heap.size w2 (w2.alloc (.cells #[.int .u32 (p : Int), u, .int .u32 (p : Int), v, .int .u32 (p : Int), t] T)) := (Below.refl _ _).alloc (Nat.le_refl _) _
  refine ⟨⟨⟨by go_cell, by go_cell, by go_cell, by go_cell, by go_cell, by go_cell⟩, by go_cell, by go_cell, by go_cell, by go_cell, by go_cell, by go_cell⟩, ?_, hA.below hb2, hs, by simp, hb.trans (hb2.mono hs)⟩
  intro hn
  obtain ⟨ad, e, h1, h2, h3⟩ := hA hn
  exact ⟨ad, e, by simp; omega, fun b hb => by simp at hb; omega, fun j hj => (hb2.cell (by rw [block_of_add]; exact h2)).trans (h3 j hj)⟩
theorem end_two {p n : Nat} {W0 w2 : World} {A2 : Option Addr} {u v t : Value} (hA : KF .u32 w2 (n + 1) w2.heap.size A2 [1]) (hs : n + 1 ≤ w2.heap.size) (hb : Below n W0 w2) (hr : Room6 w2 n) :
    Six (put6 w2 n p u v t) n p u v t ∧ SixM n W0 (put6 w2 n p u v t) n A2 := by
  refine ⟨hr.put, KO.put6 (fun hn => ?_) (by simp), ?_, Nat.le_refl _, by rw [put6_size]; omega, put6_below hb (Nat.le_refl _)⟩
  · obtain ⟨ad, e, h1, h2, h3⟩ := hA hn
    exact ⟨ad, e, h2, fun b hb => by simp at hb; omega, h3⟩
  · rw [put6_size]
    refine (hA.keep (w' := put6 w2 n p u v t) fun q h1 h2 => ?_).less (by omega) (Nat.le_refl _)
    have hq : n ≠ q.block := by omega
    unfold put6
    rw [World.cell?_setCell_far _ _ _ _ hq, World.cell?_setCell_far _ _ _ _ hq, World.cell?_setCell_far _ _ _ _ hq, World.cell?_setCell_far _ _ _ _ hq, World.cell?_setCell_far _ _ _ _ hq, World.cell?_setCell_far _ _ _ _ hq]
theorem KO.join {k : IntKind} {W : World} {bs cs : List Nat} {A : Option Addr} {xs : List Int} (h : KO k W bs A xs) (h' : KO k W cs A xs) : KO k W (bs ++ cs) A xs := fun hn => by
  obtain ⟨ad, e, h1, h2, h3⟩ := h hn
  obtain ⟨ad', e', _, h2', _⟩ := h' hn
  have : ad' = ad := by rw [e] at e'; injection e' with e'; exact e'.symm
  subst this
  exact ⟨ad', e, h1, fun b hb => (List.mem_append.1 hb).elim (h2 b) (h2' b), h3⟩
/-- A call hands back the polynomial xs; nothing of W6 is touched. -/
def PM (p : Nat) (xs : List Int) (W6 W : World) (e : Ending) (w' : World) : Prop :=
  ∃ A c, e = .returned (.agg #[.int .u32 (p : Int), .slice A xs.length c]) ∧ KF .u32 w' W6.heap.size w'.heap.size A xs ∧ xs.length ≤ c ∧ Below W6.heap.size W6 w' ∧ Below W.heap.size W w'
theorem pm_of {p : Nat} {xs : List Int} {W6 W : World} (hb : Below W6.heap.size W6 W) : ∀ e w', MadeP p xs W e w' → PM p xs W6 W e w' := by
  rintro e w' ⟨A, c, rfl, h1, h2, h3⟩
  exact ⟨A, c, rfl, h1.less hb.size (Nat.le_refl _), h2, hb.trans (h3.mono hb.size), h3⟩
theorem madeB_end {p : Nat} {G U V : List Int} {w W : World} {g a b c base : Nat} {A B C : Option Addr} {x y z : Value} (hb : Below w.heap.size w W) (hg : w.heap.size ≤ g) (hA : KF .u32 W base W.heap.size A G) (hB : KF .u32 W base W.heap.size B U) (hC : KF .u32 W base W.heap.size C V) (hgb : g < base) (ha : G.length ≤ a) (hbb : U.length ≤ b) (hc : V.length ≤ c) :
    MadeB p G U V w (.returned (.agg #[.int .u32 (p : Int), .slice A G.length a, .int .u32 (p : Int), .slice B U.length b, .int .u32 (p : Int), .slice C V.length c])) (put6 W g p x y z) := by
  have hk : ∀ {A : Option Addr} {xs : List Int}, KF .u32 W base W.heap.size A xs → KF .u32 (put6 W g p x y z) w.heap.size (put6 W g p x y z).heap.size A xs := fun h => by
    rw [put6_size]
    unfold put6
    exact ((((((h.setCell (by exact hgb)).setCell (by exact hgb)).setCell (by exact hgb)).setCell (by exact hgb)).setCell (by exact hgb)).setCell (by exact hgb)).less (by omega) (Nat.le_refl _)
  exact ⟨A, a, B, b, C, c, rfl, hk hA, hk hB, hk hC, ha, hbb, hc, put6_below hb hg⟩
/-- Where Euclid's loop stands in memory. -/
def GcdS (w : World) (p : Nat) (f g : List Int) (bx by_ : Nat) (m : Nat) (W : World) : Prop :=
  ∃ G U V G' U' V' A1 c1 A2 c2 A3 c3 B1 d1 B2 d2 B3 d3, EucP p f g G U V G' U' V' ∧ G'.length = m ∧
    Six W bx p (.slice A1 G.length c1) (.slice A2 U.length c2) (.slice A3 V.length c3) ∧ Six W by_ p (.slice B1 G'.length d1) (.slice B2 U'.length d2) (.slice B3 V'.length d3) ∧
    (KO .u32 W [bx, by_] A1 G ∧ KO .u32 W [bx, by_] A2 U ∧ KO .u32 W [bx, by_] A3 V) ∧ (KO .u32 W [bx, by_] B1 G' ∧ KO .u32 W [bx, by_] B2 U' ∧ KO .u32 W [bx, by_] B3 V') ∧
    Room6 W (w.heap.size + 1 + 1) ∧ (w.heap.size + 3 ≤ bx ∧ bx < W.heap.size) ∧ (w.heap.size + 3 ≤ by_ ∧ by_ < W.heap.size) ∧ bx ≠ by_ ∧ Below w.heap.size w W
set_option maxRecDepth 100000 in
set_option maxHeartbeats 4000000 in
theorem gcd_any (p : Nat) (A B : Option Addr) (f g : List Int) (c d : Nat) (w : World) (h : KL .u32 w w.heap.size A f) (h' : KL .u32 w w.heap.size B g) (hp : p ≤ 2147483647) (hpr : PrimeN p)
    (hf : Pol p f) (hg : Pol p g) (hfl : f.length ≤ 1000000) (hgl : g.length ≤ 1000000) :
    Calls Tryd.prog 48 #[.agg #[.int .u32 (p : Int), .slice A f.length c], .agg #[.int .u32 (p : Int), .slice B g.length d]] w fun e w' => ∃ G U V, IsGcd p f g G U V ∧ G.length ≤ f.length + g.length + 1 ∧ U.length ≤ f.length + g.length + 1 ∧ V.length ≤ f.length + g.length + 1 ∧ MadeB p G U V w e w' := by
  have HF := Lib.hid hf
  have HG := Lib.hid hg
  have HK := Lib.hid h
  have HK' := Lib.hid h'
  have HP := Lib.hid hpr
  have HPL := Lib.hid hp
  clear hf hg h h' hpr hp
  go_enter Tryd.func48, Tryd.ntmps48
  go_wp2
  go_upto_region 2 with (fail)
  have HB0 : Hid (∃ W0 : World, (((w.alloc (.cells #[.int .u32 (p : Int), .slice A f.length c] 25)).alloc (.cells #[.int .u32 (p : Int), .slice B g.length d] 25)).alloc (.cells #[.int .u32 0, .slice none 0 0, .int .u32 0, .slice none 0 0, .int .u32 0, .slice none 0 0] 54)) = W0 ∧ (W0.cell? ⟨w.heap.size, 0, none⟩ = some (.int .u32 (p : Int)) ∧ W0.cell? ⟨w.heap.size, 1, none⟩ = some (.slice A f.length c)) ∧ (W0.cell? ⟨w.heap.size + 1, 0, none⟩ = some (.int .u32 (p : Int)) ∧ W0.cell? ⟨w.heap.size + 1, 1, none⟩ = some (.slice B g.length d)) ∧ Room6 W0 (w.heap.size + 1 + 1) ∧ W0.heap.size = w.heap.size + 1 + 1 + 1 ∧ Below w.heap.size w W0) := Lib.hid (by
    refine ⟨_, rfl, ⟨by go_cell, by go_cell⟩, ⟨by go_cell, by go_cell⟩, ?_, by simp, by go_grown⟩
    exact ⟨⟨.int .u32 0, .slice none 0 0, .int .u32 0, .slice none 0 0, .int .u32 0, .slice none 0 0, by go_cell, by go_cell, by go_cell, by go_cell, by go_cell, by go_cell⟩, by go_cell, by go_cell, by go_cell, by go_cell, by go_cell, by go_cell⟩)
  obtain ⟨W0, hW0, hb0⟩ := HB0.out
  rw [hW0]
  clear hW0 HB0
  have HB0 := Lib.hid hb0
  clear hb0
  have HS0 : Hid (∀ W : World, Below W0.heap.size W0 W → Below W0.heap.size W0 W ∧ W.cell? ⟨w.heap.size, 0, none⟩ = some (.int .u32 (p : Int)) ∧ W.cell? ⟨w.heap.size, 1, none⟩ = some (.slice A f.length c)) := Lib.hid fun W hb => by
    obtain ⟨⟨b0, b1⟩, _, _, hs, _⟩ := HB0.out
    exact ⟨hb, (hb.cell (p := ⟨w.heap.size, 0, none⟩) (by show w.heap.size < _; omega)).trans b0, (hb.cell (p := ⟨w.heap.size, 1, none⟩) (by show w.heap.size < _; omega)).trans b1⟩
  have HDR0 : Hid (Below W0.heap.size W0 W0.drew) := Lib.hid (Below.refl _ _).drew
  have HAL0 : Hid (∀ o : Obj, Below W0.heap.size W0 (W0.alloc o).drew) := Lib.hid fun o => ((Below.refl _ _).alloc (Nat.le_refl _) _).drew
  have HC1 := Lib.hid (con_one p _ W0 rfl HPL.out HP.out)
  have HC2 := Lib.hid (con_two p _ W0 54 rfl HPL.out HP.out)
  go_cut [6] (fun xv wr => ∃ (bx : Nat) (A2 : Option Addr) (c2 : Nat), xv = .pointer (some ⟨bx, 0, none⟩) ∧ Six wr bx p (.slice A f.length c) (.slice A2 1 c2) (.slice none 0 0) ∧ SixM W0.heap.size W0 wr bx A2 ∧ 1 ≤ c2)
  case first =>
    go_region_held3 (fun W : World => Below W0.heap.size W0 W ∧ W.cell? ⟨w.heap.size, 0, none⟩ = some (.int .u32 (p : Int)) ∧ W.cell? ⟨w.heap.size, 1, none⟩ = some (.slice A f.length c)) (first | with_reducible exact HS0.out _ HDR0.out | with_reducible exact HS0.out _ hbx | with_reducible exact HS0.out _ (HAL0.out _) | with_reducible exact HS0.out _ (hbx.alloc hsx _) | with_reducible exact HS0.out _ (put6_below hbx (Nat.le_refl _))) (first | (go_at_call 75; (with_reducible refine HC2.out.mono ?_); rintro e w2 ⟨⟨A2, c2, rfl, hA2, hc2, hsx, hbx⟩, ⟨u0, u1, u2, u3, u4, u5, m0, m1, m2, m3, m4, m5⟩, n0, n1, n2, n3, n4, n5⟩; have HRM : Hid (Room6 w2 W0.heap.size) := Lib.hid ⟨⟨u0, u1, u2, u3, u4, u5, m0, m1, m2, m3, m4, m5⟩, n0, n1, n2, n3, n4, n5⟩) | (go_at_call 75; (with_reducible refine HC1.out.mono ?_); rintro e w2 ⟨A2, c2, rfl, hA2, hc2, hsx, hbx⟩))
    all_goals
      go_step
      go_step
      go_meet
      case rel =>
        first
        | exact ⟨_, A2, c2, rfl, (end_one hA2 hsx hbx).1, (end_one hA2 hsx hbx).2, hc2⟩
        | exact ⟨_, A2, c2, rfl, (end_two hA2 hsx hbx HRM.out).1, (end_two hA2 hsx hbx HRM.out).2, hc2⟩
  case rest =>
    obtain ⟨bx, A2, c2, rfl, hSX, hSM, hcc2⟩ := hcut
    obtain ⟨W1, rfl⟩ : ∃ W1, W1 = wc := ⟨_, rfl⟩
    obtain ⟨hKO, hKF, hbx1, hbx2, hbw⟩ := hSM
    have HSX := Lib.hid hSX
    have HKO := Lib.hid hKO
    have HKF := Lib.hid hKF
    have HBW := Lib.hid hbw
    have HCC2 := Lib.hid hcc2
    have HBX := Lib.hid hbx1
    have HBX2 := Lib.hid hbx2
    have HSZ0 : Hid (W0.heap.size = w.heap.size + 1 + 1 + 1) := Lib.hid HB0.out.2.2.2.1
    clear hSX hKO hKF hbw hcc2 hbx1 hbx2 HC1 HC2 HS0 HDR0 HAL0
    have HS1 : Hid (∀ W : World, Below W1.heap.size W1 W → Below W1.heap.size W1 W ∧ W.cell? ⟨w.heap.size + 1, 0, none⟩ = some (.int .u32 (p : Int)) ∧ W.cell? ⟨w.heap.size + 1, 1, none⟩ = some (.slice B g.length d)) := Lib.hid fun W hb => by
      obtain ⟨_, ⟨b0, b1⟩, _, hs, _⟩ := HB0.out
      have hb2 := HBW.out.trans (hb.mono HBW.out.size)
      exact ⟨hb, (hb2.cell (p := ⟨w.heap.size + 1, 0, none⟩) (by show w.heap.size + 1 < _; omega)).trans b0, (hb2.cell (p := ⟨w.heap.size + 1, 1, none⟩) (by show w.heap.size + 1 < _; omega)).trans b1⟩
    have HC1 := Lib.hid (con_one p _ W1 rfl HPL.out HP.out)
    have HC2 := Lib.hid (con_two p _ W1 54 rfl HPL.out HP.out)
    have HDR0 : Hid (Below W1.heap.size W1 W1.drew) := Lib.hid (Below.refl _ _).drew
    have HAL0 : Hid (∀ o : Obj, Below W1.heap.size W1 (W1.alloc o).drew) := Lib.hid fun o => ((Below.refl _ _).alloc (Nat.le_refl _) _).drew
    go_upto_region 3 with (fail)
    go_cut [7] (fun xv wr => ∃ (by_ : Nat) (B2 : Option Addr) (d2 : Nat), xv = .pointer (some ⟨by_, 0, none⟩) ∧ Six wr by_ p (.slice B g.length d) (.slice none 0 0) (.slice B2 1 d2) ∧ SixM W1.heap.size W1 wr by_ B2 ∧ 1 ≤ d2)
    case first =>
      go_region_held3 (fun W : World => Below W1.heap.size W1 W ∧ W.cell? ⟨w.heap.size + 1, 0, none⟩ = some (.int .u32 (p : Int)) ∧ W.cell? ⟨w.heap.size + 1, 1, none⟩ = some (.slice B g.length d)) (first | with_reducible exact HS1.out _ HDR0.out | with_reducible exact HS1.out _ hbx | with_reducible exact HS1.out _ (HAL0.out _) | with_reducible exact HS1.out _ (hbx.alloc hsx _) | with_reducible exact HS1.out _ (put6_below hbx (Nat.le_refl _))) (first | (go_at_call 75; (with_reducible refine HC2.out.mono ?_); rintro e w2 ⟨⟨A2, c2, rfl, hA2, hc2, hsx, hbx⟩, ⟨u0, u1, u2, u3, u4, u5, m0, m1, m2, m3, m4, m5⟩, n0, n1, n2, n3, n4, n5⟩; have HRM : Hid (Room6 w2 W1.heap.size) := Lib.hid ⟨⟨u0, u1, u2, u3, u4, u5, m0, m1, m2, m3, m4, m5⟩, n0, n1, n2, n3, n4, n5⟩) | (go_at_call 75; (with_reducible refine HC1.out.mono ?_); rintro e w2 ⟨A2, c2, rfl, hA2, hc2, hsx, hbx⟩))
      all_goals
        go_step
        go_step
        go_meet
        case rel =>
          first
          | exact ⟨_, A2, c2, rfl, (end_one hA2 hsx hbx).1, (end_one hA2 hsx hbx).2, hc2⟩
          | exact ⟨_, A2, c2, rfl, (end_two hA2 hsx hbx HRM.out).1, (end_two hA2 hsx hbx HRM.out).2, hc2⟩
    case rest =>
      obtain ⟨by_, B2, d2, rfl, hSY, hSM, hdd2⟩ := hcut
      obtain ⟨W2, rfl⟩ : ∃ W2, W2 = wc := ⟨_, rfl⟩
      obtain ⟨hKO, hKF, hby1, hby2, hbw⟩ := hSM
      have hbx2 := HBX2.out
      have hbx1 := HBX.out
      have hsz0 := HSZ0.out
      have hN : bx ≠ by_ := by omega
      have hbW0 : Below W0.heap.size W0 W2 := HBW.out.trans (hbw.mono HBW.out.size)
      have hbW : Below w.heap.size w W2 := HB0.out.2.2.2.2.trans (hbW0.mono (by omega))
      have hk1 : KO .u32 W2 [bx, by_] A f := KO.of_kl (HK.out.below hbW) hbW.size (fun b hb => by simp at hb; omega)
      have hk2 : KO .u32 W2 [bx, by_] A2 [1] := (HKO.out.more (cs := [bx, by_]) (fun b hb => by simp at hb; simp; omega)).below hbw
      have hk3 : KO .u32 W2 [bx, by_] B g := KO.of_kl (HK'.out.below hbW) hbW.size (fun b hb => by simp at hb; omega)
      have hk4 : KO .u32 W2 [bx, by_] B2 [1] := (KO.of_kf (bs := [bx]) hKF (fun b hb => by simp at hb; omega)).join hKO
      have HG0 : Hid (GcdS w p f g bx by_ g.length W2) := Lib.hid ⟨f, [1], [], g, [], [1], A, c, A2, c2, none, 0, B, d, none, 0, B2, d2, EucP.start HP.out HF.out HG.out, rfl, HSX.out.up hbw (by omega), hSY,
        ⟨hk1, hk2, fun h => by simp at h⟩, ⟨hk3, fun h => by simp at h, hk4⟩, HB0.out.2.2.1.up hbW0 (by omega), ⟨by omega, by omega⟩, ⟨by omega, by omega⟩, hN, hbW⟩
      have HN := Lib.hid hN
      have HBX1 : Hid (w.heap.size + 3 ≤ bx) := Lib.hid (by omega)
      have HBY1 : Hid (w.heap.size + 3 ≤ by_) := Lib.hid (by omega)
      clear hk1 hk2 hk3 hk4 hSY hKO hKF hby1 hby2 hbw hbx2 hbx1 hsz0 hN hbW0 hbW HC1 HC2 HS1 HDR0 HAL0 HSX HKO HKF HBW HBX HBX2 HB0 HSZ0 HCC2 hdd2
      go_wp2
      go_loopg [8] g.length (fun gk _ wr => GcdS w p f g bx by_ gk wr)
      case atStart => exact HG0.out
      case round =>
        clear HG0
        obtain ⟨G, U, V, G', U', V', A1, c1, A2, c2, A3, c3, B1, d1, B2, d2, B3, d3, hE, hm, hX, hY, ⟨k1, k2, k3⟩, ⟨k4, k5, k6⟩, hR, ⟨hx1, hx2⟩, ⟨hy1, hy2⟩, hne, hbw⟩ := hrel
        have HE := Lib.hid hE
        have HX := Lib.hid hX
        have HY := Lib.hid hY
        have HK1 := Lib.hid k1
        have HK2 := Lib.hid k2
        have HK3 := Lib.hid k3
        have HK4 := Lib.hid k4
        have HK5 := Lib.hid k5
        have HK6 := Lib.hid k6
        have HR := Lib.hid hR
        have HBW := Lib.hid hbw
        have HX2 := Lib.hid hx2
        have HY2 := Lib.hid hy2
        have HM := Lib.hid hm
        have hl1 := hE.l1
        have hl2 := hE.l2
        have hl3 := hE.l3
        have hl4 := hE.l4
        have HQD := hE.hG.1
        clear hE k1 k2 k3 k4 k5 k6 hR hbw hx1 hx2 hy1 hy2 hne hm hX hY HQD
        have y1 := HY.out.1.2.1
        by_cases hz : G' = []
        · subst hz
          have i0 : decide ((0 : Int) < (([] : List Int).length : Int)) = false := rfl
          have x0 := HX.out.1.1
          have x1 := HX.out.1.2.1
          obtain ⟨gl, hgl1, hgl2⟩ : ∃ gl : Nat, lead G = (gl : Int) ∧ (G ≠ [] → 0 < gl ∧ gl < p) := by
            by_cases hn : G = []
            · exact ⟨0, by rw [hn]; rfl, fun h => absurd hn h⟩
            · have := HE.out.hG.lead_bd hn
              exact ⟨(lead G).toNat, by omega, fun _ => ⟨by omega, by omega⟩⟩
          have HGL := Lib.hid hgl1
          have HGB := Lib.hid hgl2
          have HMO : Hid (Calls Tryd.prog 22 #[.agg #[.int .u32 (p : Int), .slice A1 G.length c1]] wr fun e w' => MadeU p (gl : Int) (monP p G) wr e w') := Lib.hid (by rw [← hgl1]; exact monic_any p A1 G c1 wr HK1.out.kl HPL.out HP.out HE.out.hG (by omega))
          have HML : Hid ((monP p G).length ≤ G.length) := Lib.hid (monP_len p G)
          clear hgl1 hgl2
          go_upto_region 8 with ((go_at_call 22; (with_reducible refine HMO.out.mono ?_); rintro e w5 ⟨MA, mc, rfl, hM, hmc, hb5⟩))
          obtain ⟨mg, hmg⟩ : ∃ mg, monP p G = mg := ⟨_, rfl⟩
          have HMG := Lib.hid hmg
          rw [hmg] at hM hmc HML ⊢
          clear hmg HMO
          have HW7 : Hid (∃ W7 : World, w5.alloc (.cells #[.int .u32 (p : Int), .slice MA mg.length mc] 25) = W7 ∧ (W7.cell? ⟨w5.heap.size, 0, none⟩ = some (.int .u32 (p : Int)) ∧ W7.cell? ⟨w5.heap.size, 1, none⟩ = some (.slice MA mg.length mc)) ∧ W7.heap.size = w5.heap.size + 1 ∧ Below w5.heap.size w5 W7) := Lib.hid ⟨_, rfl, ⟨by go_cell, by go_cell⟩, by simp, (Below.refl _ _).alloc (Nat.le_refl _) _⟩
          obtain ⟨W7, hW7, hc7⟩ := HW7.out
          rw [hW7]
          clear hW7 HW7
          have HC7 := Lib.hid hc7
          have HB7 : Hid (Below wr.heap.size wr W7) := Lib.hid (hb5.trans (hc7.2.2.mono hb5.size))
          have HS7 : Hid (wr.heap.size + 1 ≤ W7.heap.size ∧ w5.heap.size + 1 = W7.heap.size) := Lib.hid ⟨by have := hb5.size; have := hc7.2.1; omega, hc7.2.1.symm⟩
          have HM7 : Hid (KF .u32 W7 wr.heap.size W7.heap.size MA mg) := Lib.hid (hM.below hc7.2.2)
          have HMC := Lib.hid hmc
          have HR7 : Hid (Room6 W7 (w.heap.size + 1 + 1)) := Lib.hid (HR.out.up HB7.out (by have := HBW.out.size; have := HBX1.out; have := HX2.out; omega))
          have HX7 : Hid (Six W7 bx p (.slice A1 G.length c1) (.slice A2 U.length c2) (.slice A3 V.length c3)) := Lib.hid (HX.out.up HB7.out HX2.out)
          have HBW7 : Hid (Below w.heap.size w W7) := Lib.hid (HBW.out.trans (HB7.out.mono HBW.out.size))
          clear hc7 hb5 hM hmc x0 x1 y1
          by_cases hG : G = []
          · have hg0 : gl = 0 := by
              have := HGL.out
              rw [hG] at this
              have h2 : lead [] = 0 := rfl
              omega
            subst hg0
            have HE0 : Hid (mg = []) := Lib.hid (by rw [← HMG.out, hG]; rfl)
            have HI : Hid (IsGcd p f g [] [] []) := Lib.hid (by have := HE.out; rw [hG] at this; exact this.zero HP.out)
            obtain ⟨⟨m0, m1⟩, _, _⟩ := HC7.out
            obtain ⟨⟨r0, r1, r2, r3, r4, r5, a0, a1, a2, a3, a4, a5⟩, ⟨b0, b1, b2, b3, b4, b5⟩⟩ := HR7.out
            have hs7 := HS7.out
            have h0 := HE0.out
            subst h0
            have HQ := Lib.hid (HR7.out.put (p := p) (u := .slice MA ([] : List Int).length mc) (v := .slice none 0 0) (t := .slice none 0 0))
            clear hG HMG HGL HGB
            go_wp2
            obtain ⟨⟨q0, q1, q2, q3, q4, q5⟩, _⟩ := HQ.out
            refine bodyPost_ret (v := .agg #[.int .u32 (p : Int), .slice MA ([] : List Int).length mc, .int .u32 (p : Int), .slice none ([] : List Int).length 0, .int .u32 (p : Int), .slice none ([] : List Int).length 0]) (by simp at q0 q1 q2 q3 q4 q5; simp [results, Tryd.results48, go_sem, q0, q1, q2, q3, q4, q5]) rfl ?_
            exact ⟨[], [], [], HI.out, by simp, by simp, by simp, madeB_end (base := wr.heap.size) HBW7.out (by omega) HM7.out (fun h => by simp at h) (fun h => by simp at h) (by have := HBX1.out; have := HX2.out; omega) (by simp) (by simp) (by simp)⟩
          · obtain ⟨hg0, hg1⟩ := HGB.out hG
            have i2 : ((gl : Int) == 0) = false := by rw [beq_eq_false_iff_ne]; omega
            obtain ⟨iv, hiv⟩ : ∃ iv, gl ^ (p - 2) % p = iv := ⟨_, rfl⟩
            have hivp : iv < p := by rw [← hiv]; exact Nat.mod_lt _ HP.out.pos
            have HIV : Hid (∀ W : World, Calls Tryd.prog 57 #[.int .u32 (p : Int), .int .u32 (gl : Int)] W fun e w' => e = .returned (.tuple #[.int .u32 (iv : Int), .int .i64 0]) ∧ W = w') := Lib.hid fun W => by rw [← hiv]; exact minv_any p gl W HP.out HPL.out hg1 hg0
            have HII : Hid (invN p (lead G) = (iv : Int)) := Lib.hid (by unfold invN; rw [HGL.out, Int.toNat_natCast, hiv])
            have HEN : Hid (IsGcd p f g mg (scaleP p (iv : Int) U) (scaleP p (iv : Int) V)) := Lib.hid (by
              have := HE.out.ends HP.out hG
              rw [HII.out, HMG.out] at this
              exact this)
            have HSL : Hid ((scaleP p (iv : Int) U).length ≤ U.length ∧ (scaleP p (iv : Int) V).length ≤ V.length) := Lib.hid ⟨scaleP_len _ _ _, scaleP_len _ _ _⟩
            have HSU : Hid (∀ W : World, Below W7.heap.size W7 W → Calls Tryd.prog 28 #[.agg #[.int .u32 (p : Int), .slice A2 U.length c2], .int .u32 (iv : Int)] W (PM p (scaleP p (iv : Int) U) W7 W)) := Lib.hid fun W hb => (scale_any p iv A2 U c2 W ((HK2.out.below HB7.out).below hb).kl HPL.out HP.out.pos HE.out.hU.1 hivp (by omega)).mono (pm_of hb)
            have HSV : Hid (∀ W : World, Below W7.heap.size W7 W → Calls Tryd.prog 28 #[.agg #[.int .u32 (p : Int), .slice A3 V.length c3], .int .u32 (iv : Int)] W (PM p (scaleP p (iv : Int) V) W7 W)) := Lib.hid fun W hb => (scale_any p iv A3 V c3 W ((HK3.out.below HB7.out).below hb).kl HPL.out HP.out.pos HE.out.hV.1 hivp (by omega)).mono (pm_of hb)
            obtain ⟨su, hsu⟩ : ∃ su, scaleP p (iv : Int) U = su := ⟨_, rfl⟩
            obtain ⟨sv, hsv⟩ : ∃ sv, scaleP p (iv : Int) V = sv := ⟨_, rfl⟩
            rw [hsu] at HEN HSU HSL
            rw [hsv] at HEN HSV HSL
            have HDR : Hid (Below W7.heap.size W7 W7.drew) := Lib.hid (Below.refl _ _).drew
            have HSX : Hid (∀ W : World, Below W7.heap.size W7 W → Below W7.heap.size W7 W ∧ (W.cell? ⟨bx, 2, none⟩ = some (.int .u32 (p : Int)) ∧ W.cell? ⟨bx, 3, none⟩ = some (.slice A2 U.length c2) ∧ W.cell? ⟨bx, 4, none⟩ = some (.int .u32 (p : Int)) ∧ W.cell? ⟨bx, 5, none⟩ = some (.slice A3 V.length c3)) ∧ W.cell? ⟨w5.heap.size, 0, none⟩ = some (.int .u32 (p : Int)) ∧ W.cell? ⟨w5.heap.size, 1, none⟩ = some (.slice MA mg.length mc)) := Lib.hid fun W hb => by
              obtain ⟨s1, s2⟩ := HS7.out
              have h2 := HX2.out
              obtain ⟨⟨_, _, e2, e3, e4, e5⟩, _⟩ := HX7.out.up hb (by omega)
              obtain ⟨⟨q0, q1⟩, _, _⟩ := HC7.out
              exact ⟨hb, ⟨e2, e3, e4, e5⟩, (hb.cell (p := ⟨w5.heap.size, 0, none⟩) (by show w5.heap.size < _; omega)).trans q0, (hb.cell (p := ⟨w5.heap.size, 1, none⟩) (by show w5.heap.size < _; omega)).trans q1⟩
            clear hiv hsu hsv hG
            go_wp2_with (go_at_call 57; (with_reducible refine (HIV.out _).mono ?_); rintro e w' ⟨rfl, rfl⟩)
            have HPUT : Hid (∀ (W : World) (x y z : Value), Below W7.heap.size W7 W → (fun W : World => (W.cell? ⟨bx, 2, none⟩ = some (.int .u32 (p : Int)) ∧ W.cell? ⟨bx, 3, none⟩ = some (.slice A2 U.length c2) ∧ W.cell? ⟨bx, 4, none⟩ = some (.int .u32 (p : Int)) ∧ W.cell? ⟨bx, 5, none⟩ = some (.slice A3 V.length c3)) ∧ W.cell? ⟨w5.heap.size, 0, none⟩ = some (.int .u32 (p : Int)) ∧ W.cell? ⟨w5.heap.size, 1, none⟩ = some (.slice MA mg.length mc)) (put6 W (w.heap.size + 1 + 1) p x y z)) := Lib.hid fun W x y z hb => by
              obtain ⟨_, ⟨e2, e3, e4, e5⟩, q0, q1⟩ := HSX.out W hb
              have hq : ∀ (b o : Nat), w.heap.size + 1 + 1 ≠ b → (put6 W (w.heap.size + 1 + 1) p x y z).cell? ⟨b, o, none⟩ = W.cell? ⟨b, o, none⟩ := fun b o h => by
                unfold put6
                rw [World.cell?_setCell_far _ _ _ _ h, World.cell?_setCell_far _ _ _ _ h, World.cell?_setCell_far _ _ _ _ h, World.cell?_setCell_far _ _ _ _ h, World.cell?_setCell_far _ _ _ _ h, World.cell?_setCell_far _ _ _ _ h]
              have h1 := HBX1.out
              have h2 := HBW.out.size
              have h3 := HS7.out
              have h4 := HX2.out
              exact ⟨⟨(hq _ _ (by omega)).trans e2, (hq _ _ (by omega)).trans e3, (hq _ _ (by omega)).trans e4, (hq _ _ (by omega)).trans e5⟩, (hq _ _ (by omega)).trans q0, (hq _ _ (by omega)).trans q1⟩
            go_region_held3 (fun W : World => (W.cell? ⟨bx, 2, none⟩ = some (.int .u32 (p : Int)) ∧ W.cell? ⟨bx, 3, none⟩ = some (.slice A2 U.length c2) ∧ W.cell? ⟨bx, 4, none⟩ = some (.int .u32 (p : Int)) ∧ W.cell? ⟨bx, 5, none⟩ = some (.slice A3 V.length c3)) ∧ W.cell? ⟨w5.heap.size, 0, none⟩ = some (.int .u32 (p : Int)) ∧ W.cell? ⟨w5.heap.size, 1, none⟩ = some (.slice MA mg.length mc)) (first | with_reducible exact (HSX.out _ HDR.out).2 | with_reducible exact (HSX.out _ hb8).2 | with_reducible exact (HSX.out _ hb9).2 | with_reducible exact HPUT.out _ _ _ _ hb9) (first | (go_at_call 28; (with_reducible refine (HSU.out _ HDR.out).mono ?_); rintro e w8 ⟨SA, sc, rfl, hSA, hsc, hb8, hc8⟩) | (go_at_call 28; (with_reducible refine (HSV.out _ hb8).mono ?_); rintro e w9 ⟨TA, tc, rfl, hTA, htc, hb9, hc9⟩; have HR9 := Lib.hid (HR7.out.up hb9 (by have := HS7.out; have := HBX1.out; have := HX2.out; omega)); obtain ⟨⟨r0, r1, r2, r3, r4, r5, a0, a1, a2, a3, a4, a5⟩, ⟨b0, b1, b2, b3, b4, b5⟩⟩ := HR9.out))
            go_wp2
            have h1 := HBX1.out
            have h2 := HX2.out
            have h3 := HS7.out
            have h4 := hb8.size
            have h5 := hb9.size
            have h6 := HSL.out
            have h7 := HML.out
            obtain ⟨⟨q0, q1, q2, q3, q4, q5⟩, _⟩ := HR9.out.put (p := p) (u := .slice MA mg.length mc) (v := .slice SA su.length sc) (t := .slice TA sv.length tc)
            refine bodyPost_ret (v := .agg #[.int .u32 (p : Int), .slice MA mg.length mc, .int .u32 (p : Int), .slice SA su.length sc, .int .u32 (p : Int), .slice TA sv.length tc]) (by simp [results, Tryd.results48, go_sem, q0, q1, q2, q3, q4, q5]) rfl ?_
            exact ⟨mg, su, sv, HEN.out, by omega, by omega, by omega, madeB_end (base := wr.heap.size) (HBW7.out.trans (hb9.mono HBW7.out.size)) (by omega) ((HM7.out.below hb9)) ((hSA.below hc9).less (by omega) (Nat.le_refl _)) (hTA.less (by omega) (Nat.le_refl _)) (by omega) HMC.out hsc htc⟩
        · have i1 : (0 : Int) < (G'.length : Int) := by have := List.length_pos_iff.2 hz; omega
          have x0 := HX.out.1.1
          have x1 := HX.out.1.2.1
          have y0 := HY.out.1.1
          have HLQ : Hid ((divP p G G').length ≤ 549755813888) := Lib.hid (by
            by_cases e : divP p G G' = []
            · rw [e]; simp
            · have := divP_len HP.out HE.out.hG HE.out.hG' hz e
              omega)
          have HQD : Hid (Dig p (divP p G G')) := Lib.hid (divmod_spec HP.out HE.out.hG HE.out.hG' hz).hq.1
          have HEN := Lib.hid (EucP.next HP.out HE.out hz)
          have HRL : Hid ((modP p G G').length < G'.length) := Lib.hid (modP_lens HP.out HE.out.hG HE.out.hG' hz).1
          have HD : Hid (Calls Tryd.prog 46 #[.agg #[.int .u32 (p : Int), .slice A1 G.length c1], .agg #[.int .u32 (p : Int), .slice B1 G'.length d1]] wr fun e w' => MadeD p (divP p G G') (modP p G G') wr e w') := Lib.hid (divmod_yes p A1 B1 G G' c1 d1 wr HK1.out.kl HK4.out.kl HPL.out HP.out HE.out.hG HE.out.hG' hz (by omega) (by omega))
          obtain ⟨q, hq⟩ : ∃ q, divP p G G' = q := ⟨_, rfl⟩
          obtain ⟨r, hr⟩ : ∃ r, modP p G G' = r := ⟨_, rfl⟩
          rw [hq] at HLQ HQD HD HEN
          rw [hr] at HRL HD HEN
          clear hq hr hz
          go_upto_region 6 with ((go_at_call 46; (with_reducible refine HD.out.mono ?_); rintro e w5 ⟨QA, qc, RA, rc, rfl, hQ, hRR, hqc, hrc, hb5⟩))
          have HW6 : Hid (∃ W6 : World, (w5.alloc (.cells #[.int .u32 (p : Int), .slice QA q.length qc] 25)).alloc (.cells #[.int .u32 (p : Int), .slice RA r.length rc] 25) = W6 ∧ (W6.cell? ⟨w5.heap.size, 0, none⟩ = some (.int .u32 (p : Int)) ∧ W6.cell? ⟨w5.heap.size, 1, none⟩ = some (.slice QA q.length qc)) ∧ (W6.cell? ⟨w5.heap.size + 1, 0, none⟩ = some (.int .u32 (p : Int)) ∧ W6.cell? ⟨w5.heap.size + 1, 1, none⟩ = some (.slice RA r.length rc)) ∧ W6.heap.size = w5.heap.size + 1 + 1 ∧ Below w5.heap.size w5 W6) := Lib.hid ⟨_, rfl, ⟨by go_cell, by go_cell⟩, ⟨by go_cell, by go_cell⟩, by simp, ((Below.refl _ _).alloc (Nat.le_refl _) _).alloc (by simp) _⟩
          obtain ⟨W6, hW6, hc6⟩ := HW6.out
          rw [hW6]
          clear hW6 HW6
          have HC6 := Lib.hid hc6
          have HB6 : Hid (Below wr.heap.size wr W6) := Lib.hid (hb5.trans (hc6.2.2.2.mono hb5.size))
          have HS6 : Hid (wr.heap.size + 1 + 1 ≤ W6.heap.size ∧ w5.heap.size + 1 + 1 = W6.heap.size ∧ wr.heap.size ≤ w5.heap.size) := Lib.hid ⟨by have := hb5.size; have := hc6.2.2.1; omega, hc6.2.2.1.symm, hb5.size⟩
          have HQ6 : Hid (KF .u32 W6 wr.heap.size W6.heap.size QA q) := Lib.hid (hQ.below hc6.2.2.2)
          have HR6 : Hid (KF .u32 W6 wr.heap.size W6.heap.size RA r) := Lib.hid (hRR.below hc6.2.2.2)
          have HQC := Lib.hid hqc
          have HRC := Lib.hid hrc
          clear hc6 hb5 hQ hRR hqc hrc HD x0 x1 y0 y1
          have HDR : Hid (Below W6.heap.size W6 W6.drew) := Lib.hid (Below.refl _ _).drew
          have HSX : Hid (∀ W : World, Below W6.heap.size W6 W → (Below W6.heap.size W6 W ∧ W.cell? ⟨bx, 2, none⟩ = some (.int .u32 (p : Int)) ∧ W.cell? ⟨bx, 3, none⟩ = some (.slice A2 U.length c2) ∧ W.cell? ⟨bx, 4, none⟩ = some (.int .u32 (p : Int)) ∧ W.cell? ⟨bx, 5, none⟩ = some (.slice A3 V.length c3)) ∧
              ((W.cell? ⟨by_, 0, none⟩ = some (.int .u32 (p : Int)) ∧ W.cell? ⟨by_, 1, none⟩ = some (.slice B1 G'.length d1) ∧ W.cell? ⟨by_, 2, none⟩ = some (.int .u32 (p : Int)) ∧ W.cell? ⟨by_, 3, none⟩ = some (.slice B2 U'.length d2) ∧ W.cell? ⟨by_, 4, none⟩ = some (.int .u32 (p : Int)) ∧ W.cell? ⟨by_, 5, none⟩ = some (.slice B3 V'.length d3)) ∧
               (W.cell? ⟨w5.heap.size, 0, none⟩ = some (.int .u32 (p : Int)) ∧ W.cell? ⟨w5.heap.size, 1, none⟩ = some (.slice QA q.length qc)) ∧ (W.cell? ⟨w5.heap.size + 1, 0, none⟩ = some (.int .u32 (p : Int)) ∧ W.cell? ⟨w5.heap.size + 1, 1, none⟩ = some (.slice RA r.length rc)))) := Lib.hid fun W hb => by
            obtain ⟨s1, s2, s3⟩ := HS6.out
            have h2 := HX2.out
            have h3 := HY2.out
            obtain ⟨⟨_, _, e2, e3, e4, e5⟩, _⟩ := (HX.out.up HB6.out HX2.out).up hb (by omega)
            obtain ⟨hy, _⟩ := (HY.out.up HB6.out HY2.out).up hb (by omega)
            obtain ⟨⟨q0, q1⟩, ⟨r0, r1⟩, _, _⟩ := HC6.out
            exact ⟨⟨hb, e2, e3, e4, e5⟩, hy, ⟨(hb.cell (p := ⟨w5.heap.size, 0, none⟩) (by show w5.heap.size < _; omega)).trans q0, (hb.cell (p := ⟨w5.heap.size, 1, none⟩) (by show w5.heap.size < _; omega)).trans q1⟩, (hb.cell (p := ⟨w5.heap.size + 1, 0, none⟩) (by show w5.heap.size + 1 < _; omega)).trans r0, (hb.cell (p := ⟨w5.heap.size + 1, 1, none⟩) (by show w5.heap.size + 1 < _; omega)).trans r1⟩
          have HUB : Hid (U.length ≤ 549755813888 ∧ V.length ≤ 549755813888 ∧ U'.length ≤ 549755813888 ∧ V'.length ≤ 549755813888 ∧ (mulP p q U').length ≤ 1099511627776 ∧ (mulP p q V').length ≤ 1099511627776) := Lib.hid (by
            have a1 := cano_len p (q.length + U'.length - 1) (conv (co q) (co U'))
            have a2 := cano_len p (q.length + V'.length - 1) (conv (co q) (co V'))
            have a3 := HLQ.out
            refine ⟨by omega, by omega, by omega, by omega, ?_, ?_⟩
            · show (cano p _ _).length ≤ _; omega
            · show (cano p _ _).length ≤ _; omega)
          have HM1 : Hid (∀ W : World, Below W6.heap.size W6 W → Calls Tryd.prog 34 #[.agg #[.int .u32 (p : Int), .slice QA q.length qc], .agg #[.int .u32 (p : Int), .slice B2 U'.length d2]] W (PM p (mulP p q U') W6 W)) := Lib.hid fun W hb => (mul_any p QA B2 q U' qc d2 W (HQ6.out.below hb).kl ((HK5.out.below HB6.out).below hb).kl HPL.out HP.out.pos HQD.out HE.out.hU'.1 HLQ.out HUB.out.2.2.1 HQC.out).mono (pm_of hb)
          have HM2 : Hid (∀ W : World, Below W6.heap.size W6 W → Calls Tryd.prog 34 #[.agg #[.int .u32 (p : Int), .slice QA q.length qc], .agg #[.int .u32 (p : Int), .slice B3 V'.length d3]] W (PM p (mulP p q V') W6 W)) := Lib.hid fun W hb => (mul_any p QA B3 q V' qc d3 W (HQ6.out.below hb).kl ((HK6.out.below HB6.out).below hb).kl HPL.out HP.out.pos HQD.out HE.out.hV'.1 HLQ.out HUB.out.2.2.2.1 HQC.out).mono (pm_of hb)
          have HS1 : Hid (∀ (W : World) (A : Option Addr) (c : Nat), Below W6.heap.size W6 W → KF .u32 W W6.heap.size W.heap.size A (mulP p q U') → Calls Tryd.prog 32 #[.agg #[.int .u32 (p : Int), .slice A2 U.length c2], .agg #[.int .u32 (p : Int), .slice A (mulP p q U').length c]] W (PM p (subP p U (mulP p q U')) W6 W)) := Lib.hid fun W A c hb hA => (sub_any p A2 A U (mulP p q U') c2 c W ((HK2.out.below HB6.out).below hb).kl hA.kl HPL.out HP.out.pos HE.out.hU.1 (mulP_pol HP.out.pos).1 (by have := HUB.out.1; omega) HUB.out.2.2.2.2.1).mono (pm_of hb)
          have HS2 : Hid (∀ (W : World) (A : Option Addr) (c : Nat), Below W6.heap.size W6 W → KF .u32 W W6.heap.size W.heap.size A (mulP p q V') → Calls Tryd.prog 32 #[.agg #[.int .u32 (p : Int), .slice A3 V.length c3], .agg #[.int .u32 (p : Int), .slice A (mulP p q V').length c]] W (PM p (subP p V (mulP p q V')) W6 W)) := Lib.hid fun W A c hb hA => (sub_any p A3 A V (mulP p q V') c3 c W ((HK3.out.below HB6.out).below hb).kl hA.kl HPL.out HP.out.pos HE.out.hV.1 (mulP_pol HP.out.pos).1 (by have := HUB.out.2.1; omega) HUB.out.2.2.2.2.2).mono (pm_of hb)
          obtain ⟨m1, hm1⟩ : ∃ m1, mulP p q U' = m1 := ⟨_, rfl⟩
          obtain ⟨m2, hm2⟩ : ∃ m2, mulP p q V' = m2 := ⟨_, rfl⟩
          rw [hm1] at HM1 HS1 HEN
          rw [hm2] at HM2 HS2 HEN
          obtain ⟨u2, hu2⟩ : ∃ u2, subP p U m1 = u2 := ⟨_, rfl⟩
          obtain ⟨v2, hv2⟩ : ∃ v2, subP p V m2 = v2 := ⟨_, rfl⟩
          rw [hu2] at HS1 HEN
          rw [hv2] at HS2 HEN
          clear hm1 hm2 hu2 hv2 HUB
          refine wp_region_noPanic ?_
          refine wp_region_tail (TwoS 17 18 (fun W : World => Below W6.heap.size W6 W ∧ W.cell? ⟨bx, 2, none⟩ = some (.int .u32 (p : Int)) ∧ W.cell? ⟨bx, 3, none⟩ = some (.slice A2 U.length c2) ∧ W.cell? ⟨bx, 4, none⟩ = some (.int .u32 (p : Int)) ∧ W.cell? ⟨bx, 5, none⟩ = some (.slice A3 V.length c3)) (fun W : World =>
              (W.cell? ⟨by_, 0, none⟩ = some (.int .u32 (p : Int)) ∧ W.cell? ⟨by_, 1, none⟩ = some (.slice B1 G'.length d1) ∧ W.cell? ⟨by_, 2, none⟩ = some (.int .u32 (p : Int)) ∧ W.cell? ⟨by_, 3, none⟩ = some (.slice B2 U'.length d2) ∧ W.cell? ⟨by_, 4, none⟩ = some (.int .u32 (p : Int)) ∧ W.cell? ⟨by_, 5, none⟩ = some (.slice B3 V'.length d3)) ∧
               (W.cell? ⟨w5.heap.size, 0, none⟩ = some (.int .u32 (p : Int)) ∧ W.cell? ⟨w5.heap.size, 1, none⟩ = some (.slice QA q.length qc)) ∧ (W.cell? ⟨w5.heap.size + 1, 0, none⟩ = some (.int .u32 (p : Int)) ∧ W.cell? ⟨w5.heap.size + 1, 1, none⟩ = some (.slice RA r.length rc)))) (by kernel_rfl) ⟨fun _ => (HSX.out _ HDR.out).1, fun _ => (HSX.out _ HDR.out).2⟩ (fun hT => ?_)
          refine wpAnyT_take _ [18] (i := 0) (oi := _) (v := ?_) (TwoS.iff (by decide) (by decide)) TwoS.second rfl (by kernel_rfl) (by kernel_rfl) (by kernel_rfl) (by kernel_rfl) (by kernel_rfl) (fun _ _ _ h => h) (by assumption) (Or.inl ⟨by rfl, ?_⟩) (fun hT => ?_)
          rotate_left 1
          · intro w hSw
            (try dsimp only at hSw)
            first | (go_simp; done) | (go_simp; with_reducible rfl)
          (try simp only [Act.put, List.setIfInBounds_toArray])
          refine wpAnyT_take _ [18] (i := 1) (oi := _) (v := ?_) (TwoS.iff (by decide) (by decide)) TwoS.second rfl (by kernel_rfl) (by kernel_rfl) (by kernel_rfl) (by kernel_rfl) (by kernel_rfl) (fun _ _ _ h => h) (by assumption) (Or.inl ⟨by rfl, ?_⟩) (fun hT => ?_)
          rotate_left 1
          · intro w hSw
            (try dsimp only at hSw)
            first | (go_simp; done) | (go_simp; with_reducible rfl)
          (try simp only [Act.put])
          refine wpAnyT_take _ [18] (i := 2) (oi := _) (v := ?_) (TwoS.iff (by decide) (by decide)) TwoS.second rfl (by kernel_rfl) (by kernel_rfl) (by kernel_rfl) (by kernel_rfl) (by kernel_rfl) (fun _ _ _ h => h) (by assumption) (Or.inl ⟨by rfl, ?_⟩) (fun hT => ?_)
          rotate_left 1
          · intro w hSw
            (try dsimp only at hSw)
            first | (go_simp; done) | (go_simp; with_reducible rfl)
          (try simp only [Act.put])
          refine wpAnyT_take _ [17, 18] (i := 3) (oi := _) (v := ?_) (TwoS.iff (by decide) (by decide)) TwoS.both rfl (by kernel_rfl) (by kernel_rfl) (by kernel_rfl) (by kernel_rfl) (by kernel_rfl) (fun _ _ _ h => h) (by assumption) (Or.inl ⟨by rfl, ?_⟩) (fun hT => ?_)
          rotate_left 1
          · intro w hSw
            (try dsimp only at hSw)
            first | (go_simp; done) | (go_simp; with_reducible rfl)
          (try simp only [Act.put])
          refine wpAnyT_take _ [18] (i := 4) (oi := _) (v := ?_) (TwoS.iff (by decide) (by decide)) TwoS.second rfl (by kernel_rfl) (by kernel_rfl) (by kernel_rfl) (by kernel_rfl) (by kernel_rfl) (fun _ _ _ h => h) (by assumption) (Or.inl ⟨by rfl, ?_⟩) (fun hT => ?_)
          rotate_left 1
          · intro w hSw
            (try dsimp only at hSw)
            first | (go_simp; done) | (go_simp; with_reducible rfl)
          (try simp only [Act.put])
          refine wpAnyT_take _ [18] (i := 5) (oi := _) (v := ?_) (TwoS.iff (by decide) (by decide)) TwoS.second rfl (by kernel_rfl) (by kernel_rfl) (by kernel_rfl) (by kernel_rfl) (by kernel_rfl) (fun _ _ _ h => h) (by assumption) (Or.inl ⟨by rfl, ?_⟩) (fun hT => ?_)
          rotate_left 1
          · intro w hSw
            (try dsimp only at hSw)
            first | (go_simp; done) | (go_simp; with_reducible rfl)
          (try simp only [Act.put])
          refine wpAnyT_take _ [18] (i := 6) (oi := _) (v := ?_) (TwoS.iff (by decide) (by decide)) TwoS.second rfl (by kernel_rfl) (by kernel_rfl) (by kernel_rfl) (by kernel_rfl) (by kernel_rfl) (fun _ _ _ h => h) (by assumption) (Or.inl ⟨by rfl, ?_⟩) (fun hT => ?_)
          rotate_left 1
          · intro w hSw
            (try dsimp only at hSw)
            first | (go_simp; done) | (go_simp; with_reducible rfl)
          (try simp only [Act.put])
          refine wpAnyT_take _ [18] (i := 9) (oi := _) (v := ?_) (TwoS.iff (by decide) (by decide)) TwoS.second rfl (by kernel_rfl) (by kernel_rfl) (by kernel_rfl) (by kernel_rfl) (by kernel_rfl) (fun _ _ _ h => h) (by assumption) (Or.inl ⟨by rfl, ?_⟩) (fun hT => ?_)
          rotate_left 1
          · intro w hSw
            (try dsimp only at hSw)
            first | (go_simp; done) | (go_simp; with_reducible rfl)
          (try simp only [Act.put])
          refine wpAnyT_take _ [17, 18] (i := 10) (oi := _) (v := ?_) (TwoS.iff (by decide) (by decide)) TwoS.both rfl (by kernel_rfl) (by kernel_rfl) (by kernel_rfl) (by kernel_rfl) (by kernel_rfl) (fun _ _ _ h => h) (by assumption) (Or.inl ⟨by rfl, ?_⟩) (fun hT => ?_)
          rotate_left 1
          · intro w hSw
            (try dsimp only at hSw)
            first | (go_simp; done) | (go_simp; with_reducible rfl)
          (try simp only [Act.put])
          refine wpAnyT_take _ [18] (i := 11) (oi := _) (v := ?_) (TwoS.iff (by decide) (by decide)) TwoS.second rfl (by kernel_rfl) (by kernel_rfl) (by kernel_rfl) (by kernel_rfl) (by kernel_rfl) (fun _ _ _ h => h) (by assumption) (Or.inl ⟨by rfl, ?_⟩) (fun hT => ?_)
          rotate_left 1
          · intro w hSw
            (try dsimp only at hSw)
            first | (go_simp; done) | (go_simp; with_reducible rfl)
          (try simp only [Act.put])
          refine wpAnyT_take _ [18] (i := 12) (oi := _) (v := ?_) (TwoS.iff (by decide) (by decide)) TwoS.second rfl (by kernel_rfl) (by kernel_rfl) (by kernel_rfl) (by kernel_rfl) (by kernel_rfl) (fun _ _ _ h => h) (by assumption) (Or.inl ⟨by rfl, ?_⟩) (fun hT => ?_)
          rotate_left 1
          · intro w hSw
            (try dsimp only at hSw)
            first | (go_simp; done) | (go_simp; with_reducible rfl)
          (try simp only [Act.put])
          refine wpAnyT_take _ [18] (i := 13) (oi := _) (v := ?_) (TwoS.iff (by decide) (by decide)) TwoS.second rfl (by kernel_rfl) (by kernel_rfl) (by kernel_rfl) (by kernel_rfl) (by kernel_rfl) (fun _ _ _ h => h) (by assumption) (Or.inl ⟨by rfl, ?_⟩) (fun hT => ?_)
          rotate_left 1
          · intro w hSw
            (try dsimp only at hSw)
            first | (go_simp; done) | (go_simp; with_reducible rfl)
          (try simp only [Act.put])
          refine wpAnyT_one (i := 7) (by kernel_rfl) (oi := _) rfl (fun K hK => ?_)
          (try dsimp only [List.getElem_toArray, List.getElem_cons_succ, List.getElem_cons_zero])
          go_simp
          go_at_call 34
          (with_reducible refine (HM1.out _ HDR.out).mono ?_)
          rintro e w7 ⟨M1A, m1c, rfl, hM1, hm1c, hb7, hc7⟩
          go_wp2_with (fail)
          refine hK.out _ _ ⟨fun _ => (HSX.out _ hb7).1, fun _ => (HSX.out _ hb7).2⟩ (fun hT => ?_)
          clear hK K
          (try simp only [Act.put, List.setIfInBounds_toArray, List.set_cons_zero, List.set_cons_succ])
          refine wpAnyT_one (i := 8) (by kernel_rfl) (oi := _) rfl (fun K hK => ?_)
          (try dsimp only [List.getElem_toArray, List.getElem_cons_succ, List.getElem_cons_zero])
          go_simp
          go_at_call 32
          (with_reducible refine (HS1.out _ _ _ hb7 hM1).mono ?_)
          rintro e w8 ⟨U2A, u2c, rfl, hU2, hu2c, hb8, hc8⟩
          go_wp2_with (fail)
          refine hK.out _ _ ⟨fun _ => (HSX.out _ hb8).1, fun _ => (HSX.out _ hb8).2⟩ (fun hT => ?_)
          clear hK K
          (try simp only [Act.put, List.setIfInBounds_toArray, List.set_cons_zero, List.set_cons_succ])
          refine wpAnyT_one (i := 14) (by kernel_rfl) (oi := _) rfl (fun K hK => ?_)
          (try dsimp only [List.getElem_toArray, List.getElem_cons_succ, List.getElem_cons_zero])
          go_simp
          go_at_call 34
          (with_reducible refine (HM2.out _ hb8).mono ?_)
          rintro e w9 ⟨M2A, m2c, rfl, hM2, hm2c, hb9, hc9⟩
          go_wp2_with (fail)
          refine hK.out _ _ ⟨fun _ => (HSX.out _ hb9).1, fun _ => (HSX.out _ hb9).2⟩ (fun hT => ?_)
          clear hK K
          (try simp only [Act.put, List.setIfInBounds_toArray, List.set_cons_zero, List.set_cons_succ])
          refine wpAnyT_one (i := 15) (by kernel_rfl) (oi := _) rfl (fun K hK => ?_)
          (try dsimp only [List.getElem_toArray, List.getElem_cons_succ, List.getElem_cons_zero])
          go_simp
          go_at_call 32
          (with_reducible refine (HS2.out _ _ _ hb9 hM2).mono ?_)
          rintro e w10 ⟨V2A, v2c, rfl, hV2, hv2c, hb10, hc10⟩
          go_wp2_with (fail)
          refine hK.out _ _ ⟨fun _ => (HSX.out _ hb10).1, fun _ => (HSX.out _ hb10).2⟩ (fun hT => ?_)
          clear hK K
          (try simp only [Act.put, List.setIfInBounds_toArray, List.set_cons_zero, List.set_cons_succ])
          refine wpAnyT_take _ [18] (i := 16) (oi := _) (v := ?_) (TwoS.iff (by decide) (by decide)) TwoS.second rfl (by kernel_rfl) (by kernel_rfl) (by kernel_rfl) (by kernel_rfl) (by kernel_rfl) (fun _ _ _ h => h) (by assumption) (Or.inl ⟨by rfl, ?_⟩) (fun hT => ?_)
          rotate_left 1
          · intro w hSw
            (try dsimp only at hSw)
            first | (go_simp; done) | (go_simp; with_reducible rfl)
          (try simp only [Act.put, List.setIfInBounds_toArray])
          have hX10 := (HX.out.up HB6.out HX2.out).up hb10 (by have := HS6.out; have := HX2.out; omega)
          have hY10 := (HY.out.up HB6.out HY2.out).up hb10 (by have := HS6.out; have := HY2.out; omega)
          have hX11 : Six (put6 w10 bx p (.slice B1 G'.length d1) (.slice B2 U'.length d2) (.slice B3 V'.length d3)) bx p (.slice B1 G'.length d1) (.slice B2 U'.length d2) (.slice B3 V'.length d3) := hX10.room.put
          have hY11 : Six (put6 w10 bx p (.slice B1 G'.length d1) (.slice B2 U'.length d2) (.slice B3 V'.length d3)) by_ p (.slice B1 G'.length d1) (.slice B2 U'.length d2) (.slice B3 V'.length d3) := hY10.put_other HN.out.symm
          have hX12 : Six (put6 (put6 w10 bx p (.slice B1 G'.length d1) (.slice B2 U'.length d2) (.slice B3 V'.length d3)) by_ p (.slice RA r.length rc) (.slice U2A u2.length u2c) (.slice V2A v2.length v2c)) bx p (.slice B1 G'.length d1) (.slice B2 U'.length d2) (.slice B3 V'.length d3) := hX11.put_other HN.out
          have hY12 : Six (put6 (put6 w10 bx p (.slice B1 G'.length d1) (.slice B2 U'.length d2) (.slice B3 V'.length d3)) by_ p (.slice RA r.length rc) (.slice U2A u2.length u2c) (.slice V2A v2.length v2c)) by_ p (.slice RA r.length rc) (.slice U2A u2.length u2c) (.slice V2A v2.length v2c) := hY11.room.put
          have HX12 := Lib.hid hX12
          have HY12 := Lib.hid hY12
          have HQR : Hid (((put6 w10 bx p (.slice B1 G'.length d1) (.slice B2 U'.length d2) (.slice B3 V'.length d3)).cell? ⟨w5.heap.size, 0, none⟩ = some (.int .u32 (p : Int)) ∧ (put6 w10 bx p (.slice B1 G'.length d1) (.slice B2 U'.length d2) (.slice B3 V'.length d3)).cell? ⟨w5.heap.size, 1, none⟩ = some (.slice QA q.length qc)) ∧ ((put6 w10 bx p (.slice B1 G'.length d1) (.slice B2 U'.length d2) (.slice B3 V'.length d3)).cell? ⟨w5.heap.size + 1, 0, none⟩ = some (.int .u32 (p : Int)) ∧ (put6 w10 bx p (.slice B1 G'.length d1) (.slice B2 U'.length d2) (.slice B3 V'.length d3)).cell? ⟨w5.heap.size + 1, 1, none⟩ = some (.slice RA r.length rc))) := Lib.hid (by
            have hs := HS6.out
            have hx := HX2.out
            obtain ⟨_, _, ⟨q0, q1⟩, r0, r1⟩ := HSX.out _ hb10
            have hq : ∀ (b o : Nat), bx ≠ b → (put6 w10 bx p (.slice B1 G'.length d1) (.slice B2 U'.length d2) (.slice B3 V'.length d3)).cell? ⟨b, o, none⟩ = w10.cell? ⟨b, o, none⟩ := fun b o h => by
              unfold put6
              rw [World.cell?_setCell_far _ _ _ _ h, World.cell?_setCell_far _ _ _ _ h, World.cell?_setCell_far _ _ _ _ h, World.cell?_setCell_far _ _ _ _ h, World.cell?_setCell_far _ _ _ _ h, World.cell?_setCell_far _ _ _ _ h]
            exact ⟨⟨(hq _ _ (by omega)).trans q0, (hq _ _ (by omega)).trans q1⟩, (hq _ _ (by omega)).trans r0, (hq _ _ (by omega)).trans r1⟩)
          have HY11 := Lib.hid hY11
          obtain ⟨⟨a0, a1, a2, a3, a4, a5⟩, ⟨b0, b1, b2, b3, b4, b5⟩⟩ := hX10
          clear hX11 hX12 hY12 hY11
          obtain ⟨_, ⟨z0, z1, z2, z3, z4, z5⟩⟩ := hY10
          refine wpAnyT_one (i := 17) (by kernel_rfl) (oi := _) rfl (fun K hK => ?_)
          (try dsimp only [List.getElem_toArray, List.getElem_cons_succ, List.getElem_cons_zero])
          go_simp
          refine hK.out _ _ ⟨fun h => absurd h (by decide), fun _ => ⟨HY11.out.1, HQR.out.1, HQR.out.2⟩⟩ (fun hT => ?_)
          clear hK K
          obtain ⟨⟨e0, e1, e2, e3, e4, e5⟩, ⟨f0, f1, f2, f3, f4, f5⟩⟩ := HY11.out
          clear a0 a1 a2 a3 a4 a5 b0 b1 b2 b3 b4 b5
          refine wpAnyT_one (i := 18) (by kernel_rfl) (oi := _) rfl (fun K hK => ?_)
          (try dsimp only [List.getElem_toArray, List.getElem_cons_succ, List.getElem_cons_zero])
          go_simp
          refine hK.out _ _ ⟨fun h => absurd h (by decide), fun h => absurd h (by decide)⟩ (fun hT => ?_)
          clear hK K
          refine wpAnyT_done (by kernel_rfl) ?_ _
          refine NoPanic.normal ?_
          go_wp2_with (fail)
          go_roundg r.length
          case rel =>
            have hs := HS6.out
            have hx := HX2.out
            have hy := HY2.out
            have bx1 := HBX1.out
            have by1 := HBY1.out
            have hs10 := hb10.size
            have hs8 := hc8.size
            have hb6 := HBW.out.trans (HB6.out.mono HBW.out.size)
            have hk : ∀ {A : Option Addr} {xs : List Int}, KO .u32 w10 [bx, by_] A xs → KO .u32 (put6 (put6 w10 bx p (.slice B1 G'.length d1) (.slice B2 U'.length d2) (.slice B3 V'.length d3)) by_ p (.slice RA r.length rc) (.slice U2A u2.length u2c) (.slice V2A v2.length v2c)) [bx, by_] A xs := fun h => (h.put6 (by simp)).put6 (by simp)
            have hmem : ∀ b ∈ [bx, by_], b < wr.heap.size := fun b hb => by simp at hb; omega
            have hb810 : Below w8.heap.size w8 w10 := hc9.trans (hc10.mono hc9.size)
            refine ⟨G', U', V', r, u2, v2, B1, d1, B2, d2, B3, d3, RA, rc, U2A, u2c, V2A, v2c, HEN.out, rfl, HX12.out, HY12.out, ⟨hk ((HK4.out.below HB6.out).below hb10), hk ((HK5.out.below HB6.out).below hb10), hk ((HK6.out.below HB6.out).below hb10)⟩, ⟨hk ((KO.of_kf HR6.out hmem).below hb10), hk ((KO.of_kf hU2 (fun b hb => by have := hmem b hb; omega)).below hb810), hk (KO.of_kf hV2 (fun b hb => by have := hmem b hb; omega))⟩, ?_, ?_⟩
            · exact (((HR.out.up HB6.out (by omega)).up hb10 (by omega)).put_other (by omega)).put_other (by omega)
            · refine ⟨⟨by omega, by rw [put6_size, put6_size]; omega⟩, ⟨by omega, by rw [put6_size, put6_size]; omega⟩, HN.out, put6_below (put6_below (hb6.trans (hb10.mono (by have := hb6.size; omega))) (by omega)) (by omega)⟩
          case measure =>
            have h1 := HRL.out
            have h2 := HM.out
            omega
end Go.Proofs.YtlndchmpnnlacaaDoor
