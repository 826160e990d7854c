/- The fixed fact: awake says true. -/
import Derived.Test.YtlndchmpnnlacaaDoorHoldsG
import Derived.Test.YtlndchmpnnlacaaDoorZL
namespace Go.Proofs.YtlndchmpnnlacaaDoor
open Go.RowKit

/-- A polynomial's cell. -/
def BoxQ (W : World) (b : Nat) (p v : Value) : Prop := (W.cell? ⟨b, 0, none⟩ = some p ∧ W.cell? ⟨b, 1, none⟩ = some v) ∧ b < W.heap.size
theorem BoxQ.up {W W' : World} {b : Nat} {p v : Value} (h : BoxQ W b p v) (hb : Below W.heap.size W W') : BoxQ W' b p v :=
  ⟨⟨(hb.cell (p := ⟨b, 0, none⟩) h.2).trans h.1.1, (hb.cell (p := ⟨b, 1, none⟩) h.2).trans h.1.2⟩, Nat.lt_of_lt_of_le h.2 hb.size⟩
def SixQ (W : World) (b : Nat) (p u v t : Value) : Prop :=
  (W.cell? ⟨b, 0, none⟩ = some p ∧ W.cell? ⟨b, 1, none⟩ = some u ∧ W.cell? ⟨b, 2, none⟩ = some p ∧ W.cell? ⟨b, 3, none⟩ = some v ∧ W.cell? ⟨b, 4, none⟩ = some p ∧ W.cell? ⟨b, 5, none⟩ = some t) ∧ b < W.heap.size
theorem SixQ.up {W W' : World} {b : Nat} {p u v t : Value} (h : SixQ W b p u v t) (hb : Below W.heap.size W W') : SixQ W' b p u v t := by
  obtain ⟨⟨c0, c1, c2, c3, c4, c5⟩, hl⟩ := h
  have c : ∀ o, W'.cell? ⟨b, o, none⟩ = W.cell? ⟨b, o, none⟩ := fun o => hb.cell (p := ⟨b, o, none⟩) hl
  exact ⟨⟨(c 0).trans c0, (c 1).trans c1, (c 2).trans c2, (c 3).trans c3, (c 4).trans c4, (c 5).trans c5⟩, Nat.lt_of_lt_of_le hl hb.size⟩
/-- Up to the gcd. -/
def AwA (w W : World) : Prop :=
  BoxQ W (w.heap.size + 1) (.int .u32 5) (.slice (some ⟨w.heap.size, 0, none⟩) 3 3) ∧ BoxQ W (w.heap.size + 1 + 1 + 1) (.int .u32 5) (.slice (some ⟨w.heap.size + 1 + 1, 0, none⟩) 2 2) ∧
  KL .u32 W W.heap.size (some ⟨w.heap.size, 0, none⟩) [4, 0, 1] ∧ KL .u32 W W.heap.size (some ⟨w.heap.size + 1 + 1, 0, none⟩) [1, 1] ∧ Below w.heap.size w W
theorem AwA.up {w W W' : World} (h : AwA w W) (hb : Below W.heap.size W W') : AwA w W' :=
  ⟨h.1.up hb, h.2.1.up hb, h.2.2.1.up hb, h.2.2.2.1.up hb, below_chain h.2.2.2.2 hb⟩
/-- With the gcd. -/
def AwB (w : World) (b : Nat) (A1 A2 A3 : Option Addr) (U V : List Int) (c1 c2 c3 : Nat) (W : World) : Prop :=
  AwA w W ∧ SixQ W b (.int .u32 5) (.slice A1 2 c1) (.slice A2 U.length c2) (.slice A3 V.length c3) ∧ KL .u32 W W.heap.size A1 [1, 1] ∧ KL .u32 W W.heap.size A2 U ∧ KL .u32 W W.heap.size A3 V
theorem AwB.up {w : World} {b : Nat} {A1 A2 A3 : Option Addr} {U V : List Int} {c1 c2 c3 : Nat} {W W' : World} (h : AwB w b A1 A2 A3 U V c1 c2 c3 W) (hb : Below W.heap.size W W') : AwB w b A1 A2 A3 U V c1 c2 c3 W' :=
  ⟨h.1.up hb, h.2.1.up hb, h.2.2.1.up hb, h.2.2.2.1.up hb, h.2.2.2.2.up hb⟩
/-- With the quotient and the rest. -/
def AwC (w : World) (b : Nat) (A1 A2 A3 : Option Addr) (U V : List Int) (c1 c2 c3 : Nat) (bq br : Nat) (Aq Ar : Option Addr) (cq cr : Nat) (W : World) : Prop :=
  AwB w b A1 A2 A3 U V c1 c2 c3 W ∧ BoxQ W bq (.int .u32 5) (.slice Aq 2 cq) ∧ BoxQ W br (.int .u32 5) (.slice Ar 0 cr)
theorem AwC.up {w : World} {b : Nat} {A1 A2 A3 : Option Addr} {U V : List Int} {c1 c2 c3 : Nat} {bq br : Nat} {Aq Ar : Option Addr} {cq cr : Nat} {W W' : World} (h : AwC w b A1 A2 A3 U V c1 c2 c3 bq br Aq Ar cq cr W) (hb : Below W.heap.size W W') : AwC w b A1 A2 A3 U V c1 c2 c3 bq br Aq Ar cq cr W' :=
  ⟨h.1.up hb, h.2.1.up hb, h.2.2.up hb⟩
/-- With what Sym told. -/
def AwD (w : World) (b : Nat) (A1 A2 A3 : Option Addr) (U V : List Int) (c1 c2 c3 : Nat) (bq br : Nat) (Aq Ar : Option Addr) (cq cr : Nat) (bs : Addr) (W : World) : Prop :=
  AwC w b A1 A2 A3 U V c1 c2 c3 bq br Aq Ar cq cr W ∧ W.cell? bs = some (.bool true) ∧ bs.block < W.heap.size
theorem AwD.up {w : World} {b : Nat} {A1 A2 A3 : Option Addr} {U V : List Int} {c1 c2 c3 : Nat} {bq br : Nat} {Aq Ar : Option Addr} {cq cr : Nat} {bs : Addr} {W W' : World} (h : AwD w b A1 A2 A3 U V c1 c2 c3 bq br Aq Ar cq cr bs W) (hb : Below W.heap.size W W') : AwD w b A1 A2 A3 U V c1 c2 c3 bq br Aq Ar cq cr bs W' :=
  ⟨h.1.up hb, (hb.cell h.2.2).trans h.2.1, Nat.lt_of_lt_of_le h.2.2 hb.size⟩
theorem aw_field : FieldP 5 := ⟨by omega, by omega, fun j h1 h2 => by
  have : j < 3 := by
    rcases Nat.lt_or_ge j 3 with h | h
    · exact h
    · have := Nat.mul_le_mul h h
      omega
  obtain rfl : j = 2 := by omega
  decide⟩
theorem prime5 : PrimeN 5 := primeN_of_trial aw_field.1 aw_field.2.2
theorem awf_pol : Pol 5 [4, 0, 1] := ⟨fun x hx => by simp at hx; omega, fun k hk => by obtain rfl : k = 2 := (by simpa using hk); decide⟩
theorem awg_pol : Pol 5 [1, 1] := ⟨fun x hx => by simp at hx; omega, fun k hk => by obtain rfl : k = 1 := (by simpa using hk); decide⟩
theorem aw_gcd : IsGcd 5 [4, 0, 1] [1, 1] [1, 1] [] [1] where
  hG := awg_pol
  hU := Pol.nil_ 5
  hV := pol_one (by omega)
  left := ⟨[4, 1], ⟨fun x hx => by simp at hx; omega, fun k hk => by obtain rfl : k = 1 := (by simpa using hk); decide⟩, by decide +kernel⟩
  right := DvdP.self (by omega) awg_pol
  sum := by decide +kernel
  monic := Or.inr ⟨by simp, rfl⟩
theorem aw_div : divP 5 [4, 0, 1] [1, 1] = [4, 1] ∧ modP 5 [4, 0, 1] [1, 1] = [] := by decide +kernel
theorem dig_word {p : Nat} {xs : List Int} (h : Dig p xs) (hp : p ≤ 4294967296) : Dig 4294967296 xs := fun x hx => by have := h x hx; omega
theorem C_gcd {w W : World} (h : AwA w W) : Calls Tryd.prog 48 #[.agg #[.int .u32 5, .slice (some ⟨w.heap.size, 0, none⟩) 3 3], .agg #[.int .u32 5, .slice (some ⟨w.heap.size + 1 + 1, 0, none⟩) 2 2]] W fun e w' =>
    ∃ U V A1 A2 A3 c1 c2 c3, e = .returned (.agg #[.int .u32 5, .slice A1 2 c1, .int .u32 5, .slice A2 U.length c2, .int .u32 5, .slice A3 V.length c3]) ∧ AwA w w' ∧
      (KL .u32 w' w'.heap.size A1 [1, 1] ∧ KL .u32 w' w'.heap.size A2 U ∧ KL .u32 w' w'.heap.size A3 V) ∧ IsGcd 5 [4, 0, 1] [1, 1] [1, 1] U V ∧ (U.length ≤ 6 ∧ V.length ≤ 6) ∧ U.length ≤ c2 ∧ V.length ≤ c3 := by
  have hg := gcd_any 5 (some ⟨w.heap.size, 0, none⟩) (some ⟨w.heap.size + 1 + 1, 0, none⟩) [4, 0, 1] [1, 1] 3 2 W h.2.2.1 h.2.2.2.1 (by omega) prime5 awf_pol awg_pol (by simp) (by simp)
  refine hg.mono ?_
  rintro e w' ⟨G, U, V, hi, l1, l2, l3, A1, c1, A2, c2, A3, c3, rfl, k1, k2, k3, d1, d2, d3, hb⟩
  obtain rfl : G = [1, 1] := hi.unique prime5 aw_gcd
  exact ⟨U, V, A1, A2, A3, c1, c2, c3, rfl, h.up hb, ⟨k1.kl, k2.kl, k3.kl⟩, hi, ⟨l2, l3⟩, d2, d3⟩
theorem C_div {w W : World} {b : Nat} {A1 A2 A3 : Option Addr} {U V : List Int} {c1 c2 c3 : Nat} (h : AwB w b A1 A2 A3 U V c1 c2 c3 W) : Calls Tryd.prog 46 #[.agg #[.int .u32 5, .slice (some ⟨w.heap.size, 0, none⟩) 3 3], .agg #[.int .u32 5, .slice (some ⟨w.heap.size + 1 + 1, 0, none⟩) 2 2]] W fun e w' =>
    ∃ Aq Ar cq cr, e = .returned (.tuple #[.agg #[.int .u32 5, .slice Aq 2 cq], .agg #[.int .u32 5, .slice Ar 0 cr], .int .i64 0]) ∧ AwB w b A1 A2 A3 U V c1 c2 c3 w' := by
  have hg := divmod_yes 5 (some ⟨w.heap.size, 0, none⟩) (some ⟨w.heap.size + 1 + 1, 0, none⟩) [4, 0, 1] [1, 1] 3 2 W h.1.2.2.1 h.1.2.2.2.1 (by omega) prime5 awf_pol awg_pol (by simp) (by simp) (by simp)
  rw [aw_div.1, aw_div.2] at hg
  refine hg.mono ?_
  rintro e w' ⟨Aq, cq, Ar, cr, rfl, _, _, _, _, hb⟩
  exact ⟨Aq, Ar, cq, cr, rfl, h.up hb⟩
theorem C_sym {w W : World} {b : Nat} {A1 A2 A3 : Option Addr} {U V : List Int} {c1 c2 c3 bq br : Nat} {Aq Ar A : Option Addr} {cq cr : Nat} (h : AwC w b A1 A2 A3 U V c1 c2 c3 bq br Aq Ar cq cr W) (hA : KL .u32 W W.heap.size A [3]) :
    Calls Tryd.prog 44 #[.agg #[.int .u32 5, .slice A 1 1]] W fun e w' => ∃ bs c, e = .returned (.slice (some bs) 1 c) ∧ AwD w b A1 A2 A3 U V c1 c2 c3 bq br Aq Ar cq cr bs w' := by
  refine (sym_any 5 A [3] 1 W hA (by omega) (by omega) (fun x hx => by simp at hx; subst hx; omega) (by simp)).mono ?_
  rintro e w' ⟨A2, c2, rfl, hz, hc, hb⟩
  obtain ⟨ad, rfl, h1, h2, h3⟩ := hz (by simp [liftP])
  refine ⟨ad, c2, rfl, h.up hb, ?_, h2⟩
  have h4 := (h3 0 (by simp [liftP])).1
  rw [liftP_at (by simp)] at h4
  simpa [Addr.add, zrow, liftN] using h4
theorem kl_one {W : World} {b : Nat} {x : Int} (h0 : W.cell? ⟨b, 0, none⟩ = some (.int .u32 x)) : KL .u32 W W.heap.size (some ⟨b, 0, none⟩) [x] := fun _ => ⟨_, rfl, World.block_lt_of_cell? W _ h0, fun j hj => by
  obtain rfl : j = 0 := by simpa using hj
  exact h0⟩
theorem kl_two {W : World} {b : Nat} {x y : Int} (h0 : W.cell? ⟨b, 0, none⟩ = some (.int .u32 x)) (h1 : W.cell? ⟨b, 1, none⟩ = some (.int .u32 y)) : KL .u32 W W.heap.size (some ⟨b, 0, none⟩) [x, y] := fun _ => ⟨_, rfl, World.block_lt_of_cell? W _ h0, fun j hj => by
  rcases (show j = 0 ∨ j = 1 by simp at hj; omega) with rfl | rfl
  · exact h0
  · exact h1⟩
theorem kl_three {W : World} {b : Nat} {x y z : Int} (h0 : W.cell? ⟨b, 0, none⟩ = some (.int .u32 x)) (h1 : W.cell? ⟨b, 1, none⟩ = some (.int .u32 y)) (h2 : W.cell? ⟨b, 2, none⟩ = some (.int .u32 z)) : KL .u32 W W.heap.size (some ⟨b, 0, none⟩) [x, y, z] := fun _ => ⟨_, rfl, World.block_lt_of_cell? W _ h0, fun j hj => by
  rcases (show j = 0 ∨ j = 1 ∨ j = 2 by simp at hj; omega) with rfl | rfl | rfl
  · exact h0
  · exact h1
  · exact h2⟩
theorem AwA.cells {w W : World} (h : AwA w W) : ((W.cell? ⟨w.heap.size + 1, 0, none⟩ = some (.int .u32 5) ∧ W.cell? ⟨w.heap.size + 1, 1, none⟩ = some (.slice (some ⟨w.heap.size, 0, none⟩) 3 3)) ∧ (W.cell? ⟨w.heap.size + 1 + 1 + 1, 0, none⟩ = some (.int .u32 5) ∧ W.cell? ⟨w.heap.size + 1 + 1 + 1, 1, none⟩ = some (.slice (some ⟨w.heap.size + 1 + 1, 0, none⟩) 2 2))) ∧ w.heap.size + 1 + 1 + 1 < W.heap.size := ⟨⟨h.1.1, h.2.1.1⟩, h.2.1.2⟩
theorem C_right {w W : World} {b : Nat} {A1 A2 A3 : Option Addr} {U V : List Int} {c1 c2 c3 bq br : Nat} {Aq Ar : Option Addr} {cq cr : Nat} {bs : Addr} (hg : TabG W) (h : AwD w b A1 A2 A3 U V c1 c2 c3 bq br Aq Ar cq cr bs W) :
    Calls Tryd.prog 13 #[.agg #[.int .u32 5, .slice (some ⟨w.heap.size, 0, none⟩) 3 3]] W fun e w' => e = .returned (.bool true) ∧ AwD w b A1 A2 A3 U V c1 c2 c3 bq br Aq Ar cq cr bs w' := by
  refine (right_any 5 (some ⟨w.heap.size, 0, none⟩) [4, 0, 1] 3 W hg h.1.1.1.2.2.1 (by omega) (dig_word awf_pol.1 (by omega)) (by simp)).mono ?_
  rintro e w' ⟨⟨r, rfl, hr⟩, hb⟩
  exact ⟨by rw [hr.2 ⟨aw_field, awf_pol⟩], h.up hb⟩
theorem C_same {w W : World} {b : Nat} {A1 A2 A3 : Option Addr} {U V : List Int} {c1 c2 c3 bq br : Nat} {Aq Ar : Option Addr} {cq cr : Nat} {bs : Addr} (h : AwD w b A1 A2 A3 U V c1 c2 c3 bq br Aq Ar cq cr bs W) :
    Calls Tryd.prog 16 #[.agg #[.int .u32 5, .slice A1 2 c1], .agg #[.int .u32 5, .slice (some ⟨w.heap.size + 1 + 1, 0, none⟩) 2 2]] W fun e w' => e = .returned (.bool true) ∧ AwD w b A1 A2 A3 U V c1 c2 c3 bq br Aq Ar cq cr bs w' := by
  refine (rsame_any 5 5 A1 (some ⟨w.heap.size + 1 + 1, 0, none⟩) [1, 1] [1, 1] c1 2 W h.1.1.2.2.1 h.1.1.1.2.2.2.1 (dig_word awg_pol.1 (by omega)) (dig_word awg_pol.1 (by omega)) (by simp) (by simp)).mono ?_
  rintro e w' ⟨rfl, hb⟩
  exact ⟨by simp [eqP], h.up hb⟩
theorem C_holds {w W : World} {b : Nat} {A1 A2 A3 : Option Addr} {U V : List Int} {c1 c2 c3 bq br : Nat} {Aq Ar : Option Addr} {cq cr : Nat} {bs : Addr} (hg : TabG W) (h : AwD w b A1 A2 A3 U V c1 c2 c3 bq br Aq Ar cq cr bs W)
    (hi : IsGcd 5 [4, 0, 1] [1, 1] [1, 1] U V) (hl : U.length ≤ 6 ∧ V.length ≤ 6) (hc : U.length ≤ c2 ∧ V.length ≤ c3) :
    Calls Tryd.prog 50 #[.agg #[.int .u32 5, .slice (some ⟨w.heap.size, 0, none⟩) 3 3], .agg #[.int .u32 5, .slice (some ⟨w.heap.size + 1 + 1, 0, none⟩) 2 2], .agg #[.int .u32 5, .slice A1 2 c1, .int .u32 5, .slice A2 U.length c2, .int .u32 5, .slice A3 V.length c3]] W fun e w' => e = .returned (.bool true) ∧ AwD w b A1 A2 A3 U V c1 c2 c3 bq br Aq Ar cq cr bs w' := by
  refine (holdsgcd_any 5 5 5 5 5 (some ⟨w.heap.size, 0, none⟩) (some ⟨w.heap.size + 1 + 1, 0, none⟩) A1 A2 A3 [4, 0, 1] [1, 1] [1, 1] U V 3 2 c1 c2 c3 W hg h.1.1.1.2.2.1 h.1.1.1.2.2.2.1 h.1.1.2.2.1 h.1.1.2.2.2.1 h.1.1.2.2.2.2 (by omega)
    ⟨dig_word awf_pol.1 (by omega), dig_word awg_pol.1 (by omega), dig_word awg_pol.1 (by omega), dig_word hi.hU.1 (by omega), dig_word hi.hV.1 (by omega)⟩ ⟨by simp, by simp, by simp, by omega, by omega⟩ hc).mono ?_
  rintro e w' ⟨⟨r, rfl, hr⟩, hb⟩
  exact ⟨by rw [hr.2 ⟨⟨rfl, rfl, rfl, rfl⟩, ⟨⟨aw_field, awf_pol⟩, ⟨aw_field, awg_pol⟩, ⟨aw_field, awg_pol⟩, ⟨aw_field, hi.hU⟩, ⟨aw_field, hi.hV⟩⟩, hi⟩], h.up hb⟩
theorem C_value {w W : World} {b : Nat} {A1 A2 A3 : Option Addr} {U V : List Int} {c1 c2 c3 bq br : Nat} {Aq Ar : Option Addr} {cq cr : Nat} {bs : Addr} (h : AwD w b A1 A2 A3 U V c1 c2 c3 bq br Aq Ar cq cr bs W) :
    Calls Tryd.prog 24 #[.agg #[.int .u32 5, .slice (some ⟨w.heap.size, 0, none⟩) 3 3], .int .u32 2] W fun e w' => e = .returned (.int .u32 3) ∧ AwD w b A1 A2 A3 U V c1 c2 c3 bq br Aq Ar cq cr bs w' := by
  refine (value_any 5 2 (some ⟨w.heap.size, 0, none⟩) [4, 0, 1] 3 W h.1.1.1.2.2.1 (by omega) (by omega) awf_pol.1 (by omega) (by simp)).mono ?_
  rintro e w' ⟨rfl, hb⟩
  exact ⟨by simp [valZ], h.up hb⟩
theorem C_deg {w W : World} {b : Nat} {A1 A2 A3 : Option Addr} {U V : List Int} {c1 c2 c3 bq br : Nat} {Aq Ar : Option Addr} {cq cr : Nat} {bs : Addr} (h : AwD w b A1 A2 A3 U V c1 c2 c3 bq br Aq Ar cq cr bs W) :
    Calls Tryd.prog 18 #[.agg #[.int .u32 5, .slice (some ⟨w.heap.size, 0, none⟩) 3 3]] W fun e w' => e = .returned (.int .i64 2) ∧ AwD w b A1 A2 A3 U V c1 c2 c3 bq br Aq Ar cq cr bs w' := by
  refine (deg_any 5 (some ⟨w.heap.size, 0, none⟩) 3 3 W (by omega)).mono ?_
  rintro e w' ⟨rfl, hb⟩
  exact ⟨rfl, h.up hb⟩
theorem AwD.bw {w : World} {b : Nat} {A1 A2 A3 : Option Addr} {U V : List Int} {c1 c2 c3 : Nat} {bq br : Nat} {Aq Ar : Option Addr} {cq cr : Nat} {bs : Addr} {W : World} (h : AwD w b A1 A2 A3 U V c1 c2 c3 bq br Aq Ar cq cr bs W) : Below w.heap.size w W := h.1.1.1.2.2.2.2
theorem one_new {W : World} {p : Addr} {v : Value} (h : W.cell? p = some v) : ∀ o : Obj, (W.alloc o).cell? p = some v := fun o => (((Below.refl W.heap.size W).alloc (Nat.le_refl _) o).cell (World.block_lt_of_cell? W _ h)).trans h
theorem AwD.cells {w : World} {b : Nat} {A1 A2 A3 : Option Addr} {U V : List Int} {c1 c2 c3 : Nat} {bq br : Nat} {Aq Ar : Option Addr} {cq cr : Nat} {bs : Addr} {W : World} (h : AwD w b A1 A2 A3 U V c1 c2 c3 bq br Aq Ar cq cr bs W) :
    ((W.cell? ⟨w.heap.size + 1, 0, none⟩ = some (.int .u32 5) ∧ W.cell? ⟨w.heap.size + 1, 1, none⟩ = some (.slice (some ⟨w.heap.size, 0, none⟩) 3 3)) ∧ (W.cell? ⟨w.heap.size + 1 + 1 + 1, 0, none⟩ = some (.int .u32 5) ∧ W.cell? ⟨w.heap.size + 1 + 1 + 1, 1, none⟩ = some (.slice (some ⟨w.heap.size + 1 + 1, 0, none⟩) 2 2))) ∧
    (W.cell? ⟨b, 0, none⟩ = some (.int .u32 5) ∧ W.cell? ⟨b, 1, none⟩ = some (.slice A1 2 c1) ∧ W.cell? ⟨b, 2, none⟩ = some (.int .u32 5) ∧ W.cell? ⟨b, 3, none⟩ = some (.slice A2 U.length c2) ∧ W.cell? ⟨b, 4, none⟩ = some (.int .u32 5) ∧ W.cell? ⟨b, 5, none⟩ = some (.slice A3 V.length c3)) ∧
    (W.cell? ⟨bq, 1, none⟩ = some (.slice Aq 2 cq) ∧ W.cell? ⟨br, 1, none⟩ = some (.slice Ar 0 cr) ∧ W.cell? bs = some (.bool true)) := ⟨h.1.1.1.cells.1, h.1.1.2.1.1, h.1.2.1.1.2, h.1.2.2.1.2, h.2.1⟩
set_option maxRecDepth 100000 in
set_option maxHeartbeats 4000000 in
theorem awake_any (w : World) (hg : TabG w) : Calls Tryd.prog 12 #[] w fun e w' => e = .returned (.bool true) ∧ Below w.heap.size w w' := by
  have HT := Lib.hid hg
  clear hg
  go_enter Tryd.func12, Tryd.ntmps12
  go_wp2_with (first
    | (go_at_call 48; (with_reducible refine (C_gcd (w := w) ?_).mono ?_); exact ⟨⟨⟨(by go_cell), (by go_cell)⟩, (by simp)⟩, ⟨⟨(by go_cell), (by go_cell)⟩, (by simp)⟩, kl_three (by go_cell) (by go_cell) (by go_cell), kl_two (by go_cell) (by go_cell), (by go_grown)⟩; rintro e w1 ⟨U, V, A1, A2, A3, c1, c2, c3, rfl, hst, hk, hi, hl, hc⟩; obtain ⟨⟨⟨f0, f1⟩, ⟨g0, g1⟩⟩, hz⟩ := hst.cells; have f0' := one_new f0; have f1' := one_new f1; have g0' := one_new g0; have g1' := one_new g1; clear f0 f1 g0 g1; have HS := Lib.hid hst; have HK := Lib.hid hk; have HI := Lib.hid hi; have HL := Lib.hid hl; have HC := Lib.hid hc; clear hst hk hi hl hc)
    | (go_at_call 46; (with_reducible refine (C_div (w := w) (b := w1.heap.size) (A1 := A1) (A2 := A2) (A3 := A3) (U := U) (V := V) (c1 := c1) (c2 := c2) (c3 := c3) ?_).mono ?_); exact ⟨HS.out.up (by go_grown), ⟨⟨(by go_cell), (by go_cell), (by go_cell), (by go_cell), (by go_cell), (by go_cell)⟩, (by simp)⟩, HK.out.1.up (by go_grown), HK.out.2.1.up (by go_grown), HK.out.2.2.up (by go_grown)⟩; rintro e w2 ⟨Aq, Ar, cq, cr, rfl, hst⟩; clear f0' f1' g0' g1'; have HS2 := Lib.hid hst; clear hst)
    | (go_at_call 44; (with_reducible refine (C_sym (w := w) (b := w1.heap.size) (A1 := A1) (A2 := A2) (A3 := A3) (U := U) (V := V) (c1 := c1) (c2 := c2) (c3 := c3) (bq := w2.heap.size) (br := w2.heap.size + 1) (Aq := Aq) (Ar := Ar) (cq := cq) (cr := cr) ?_ ?_).mono ?_); exact ⟨HS2.out.up (by go_grown), ⟨⟨(by go_cell), (by go_cell)⟩, (by (simp only [World.size_alloc]; omega))⟩, ⟨⟨(by go_cell), (by go_cell)⟩, (by (simp only [World.size_alloc]; omega))⟩⟩; exact kl_one (by go_cell); rintro e w3 ⟨bs, cs, rfl, hst⟩; obtain ⟨⟨⟨f0, f1⟩, ⟨g0, g1⟩⟩, ⟨b0, b1, b2, b3, b4, b5⟩, ⟨q1, r1, s1⟩⟩ := hst.cells; have HS3 := Lib.hid hst; have HB3 := Lib.hid hst.1.1.1.2.2.2.2; clear hst)
    | (go_at_call 13; (with_reducible refine (C_right (HT.out.up HB3.out) HS3.out).mono ?_); rintro e w4 ⟨rfl, hst⟩; clear f0 f1 g0 g1 b0 b1 b2 b3 b4 b5 q1 r1 s1; obtain ⟨⟨⟨f0, f1⟩, ⟨g0, g1⟩⟩, ⟨b0, b1, b2, b3, b4, b5⟩, ⟨q1, r1, s1⟩⟩ := hst.cells; have HS4 := Lib.hid hst; clear hst)
    | (go_at_call 16; (with_reducible refine (C_same HS4.out).mono ?_); rintro e w5 ⟨rfl, hst⟩; clear f0 f1 g0 g1 b0 b1 b2 b3 b4 b5 q1 r1 s1; obtain ⟨⟨⟨f0, f1⟩, ⟨g0, g1⟩⟩, ⟨b0, b1, b2, b3, b4, b5⟩, ⟨q1, r1, s1⟩⟩ := hst.cells; have HS5 := Lib.hid hst; clear hst)
    | (go_at_call 50; (with_reducible refine (C_holds (HT.out.up HS5.out.bw) HS5.out HI.out HL.out HC.out).mono ?_); rintro e w6 ⟨rfl, hst⟩; clear f0 f1 g0 g1 b0 b1 b2 b3 b4 b5 q1 r1 s1; obtain ⟨⟨⟨f0, f1⟩, ⟨g0, g1⟩⟩, ⟨b0, b1, b2, b3, b4, b5⟩, ⟨q1, r1, s1⟩⟩ := hst.cells; have HS6 := Lib.hid hst; clear hst)
    | (go_at_call 24; (with_reducible refine (C_value HS6.out).mono ?_); rintro e w7 ⟨rfl, hst⟩; clear f0 f1 g0 g1 b0 b1 b2 b3 b4 b5 q1 r1 s1; obtain ⟨⟨⟨f0, f1⟩, ⟨g0, g1⟩⟩, ⟨b0, b1, b2, b3, b4, b5⟩, ⟨q1, r1, s1⟩⟩ := hst.cells; have HS7 := Lib.hid hst; clear hst)
    | (go_at_call 18; (with_reducible refine (C_deg HS7.out).mono ?_); rintro e w8 ⟨rfl, hst⟩; clear f0 f1 g0 g1 b0 b1 b2 b3 b4 b5 q1 r1 s1; obtain ⟨⟨⟨f0, f1⟩, ⟨g0, g1⟩⟩, ⟨b0, b1, b2, b3, b4, b5⟩, ⟨q1, r1, s1⟩⟩ := hst.cells; have HS8 := Lib.hid hst; clear hst))
  go_ret
  exact ⟨ret_bool (by first | rfl | (simp; done)), HS8.out.1.1.1.2.2.2.2⟩
end Go.Proofs.YtlndchmpnnlacaaDoor
