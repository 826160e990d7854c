/- Contracts: Fair and Pair, of any length. -/
import Derived.Test.YtlndchmpnnlacaaDoorSm
namespace Go.Proofs.YtlndchmpnnlacaaDoor
open Go.RowKit

set_option maxHeartbeats 1000000 in
theorem fair_far (p most n : Nat) (A : Option Addr) (c : Nat) (w : World) (hn : most + 1 < n) (_hl : n ≤ maxLen) (hm : most ≤ 1000) :
    Calls Tryd.prog 40 #[.agg #[.int .u32 (p : Int), .slice A n c], .int .i64 (most : Int)] w fun e w' => e = .returned (.bool false) ∧ Below w.heap.size w w' := by
  have HB := Lib.hid (box1_start w p (.slice A n c) 25)
  have hd1 : decide ((n : Int) ≤ (most : Int) + 1) = false := by simp; omega
  go_enter Tryd.func40, Tryd.ntmps40
  go_wp2
  go_ret
  exact ⟨ret_bool (by first | rfl | simp), HB.out.2.2⟩
theorem fair_all (p most : Nat) (A : Option Addr) (xs : List Int) (c : Nat) (w : World) (h : KL .u32 w w.heap.size A xs) (hp : p ≤ 4294967295) (hd : Dig 4294967296 xs) (hl : xs.length ≤ maxLen) (hm : most ≤ 1000) :
    Calls Tryd.prog 40 #[.agg #[.int .u32 (p : Int), .slice A xs.length c], .int .i64 (most : Int)] w fun e w' => ToldF p xs most w e w' := by
  rcases Nat.lt_or_ge (most + 1) xs.length with h1 | h1
  · exact (fair_far p most xs.length A c w h1 hl hm).mono fun e w' ⟨h2, h3⟩ => ⟨⟨false, h2, ⟨fun h => (by cases h), fun h => absurd h.1 (by omega)⟩⟩, h3⟩
  · exact fair_any p most A xs c w h hp hd (by omega) hm
set_option maxHeartbeats 2000000 in
theorem pair_all (p q most : Nat) (A B : Option Addr) (xs ys : List Int) (c d : Nat) (w : World) (h : KL .u32 w w.heap.size A xs) (h' : KL .u32 w w.heap.size B ys) (hp : p ≤ 4294967295) (hq : q ≤ 4294967295) (hd : Dig 4294967296 xs) (hd' : Dig 4294967296 ys) (hl : xs.length ≤ maxLen) (hl' : ys.length ≤ maxLen) (hm : most ≤ 1000) :
    Calls Tryd.prog 17 #[.agg #[.int .u32 (p : Int), .slice A xs.length c], .agg #[.int .u32 (q : Int), .slice B ys.length d], .int .i64 (most : Int)] w fun e w' => ToldQ p q xs ys most w e w' := by
  have HB := Lib.hid (box2_start w p q (.slice A xs.length c) (.slice B ys.length d) 25 25)
  have HB0 := Lib.hid HB.out.2.2.2
  have HR : Hid (∀ W : World, Below w.heap.size w W → Calls Tryd.prog 40 #[.agg #[.int .u32 (p : Int), .slice A xs.length c], .int .i64 (most : Int)] W fun e w' => ToldF p xs most W e w') := Lib.hid fun W hW => fair_all p most A xs c W ((h.below hW).more hW.size) hp hd hl hm
  have HR' : Hid (∀ W : World, Below w.heap.size w W → Calls Tryd.prog 40 #[.agg #[.int .u32 (q : Int), .slice B ys.length d], .int .i64 (most : Int)] W fun e w' => ToldF q ys most W e w') := Lib.hid fun W hW => fair_all q most B ys d W ((h'.below hW).more hW.size) hq hd' hl' hm
  clear h h' hd hd'
  by_cases hpq : p = q
  · have HPQ := Lib.hid hpq
    have i1 : ((p : Int) == (q : Int)) = true := by rw [beq_iff_eq]; omega
    clear hpq
    by_cases hm1 : xs.length ≤ most + 1 ∧ MayP p xs
    · have HN := Lib.hid hm1
      have HR2 : Hid (∀ W : World, Below w.heap.size w W → Calls Tryd.prog 40 #[.agg #[.int .u32 (p : Int), .slice A xs.length c], .int .i64 (most : Int)] W fun e w' => e = .returned (.bool true) ∧ Below W.heap.size W w') := Lib.hid fun W hW => (HR.out W hW).mono fun e w' ⟨⟨b, h1, h2⟩, h3⟩ => ⟨by rw [h1, h2.2 hm1], h3⟩
      clear hm1
      go_enter Tryd.func17, Tryd.ntmps17
      go_wp2_with (first
        | (go_at_call 40; (with_reducible refine (HR2.out _ HB0.out).mono ?_); rintro e w1 ⟨rfl, hb1⟩; have HB1 := Lib.hid (HB.out.up (hb1.mono (by simp))); obtain ⟨⟨b0, b1⟩, ⟨b2, b3⟩, hs, hbw⟩ := HB1.out; have HB10 := Lib.hid hbw; clear hb1 hbw)
        | (go_at_call 40; (with_reducible refine (HR'.out _ HB10.out).mono ?_); rintro e w2 ⟨⟨b, rfl, hb⟩, hb2⟩; have HBB := Lib.hid hb; have HB2 := Lib.hid (HB1.out.up (hb2.mono hs)); clear hb hb2))
      go_ret
      exact ⟨⟨b, ret_bool (by simp), fun h => ⟨HPQ.out, HN.out, HBB.out.1 h⟩, fun h => HBB.out.2 h.2.2⟩, HB2.out.2.2.2⟩
    · have HN := Lib.hid hm1
      have HR2 : Hid (∀ W : World, Below w.heap.size w W → Calls Tryd.prog 40 #[.agg #[.int .u32 (p : Int), .slice A xs.length c], .int .i64 (most : Int)] W fun e w' => e = .returned (.bool false) ∧ Below W.heap.size W w') := Lib.hid fun W hW => (HR.out W hW).mono fun e w' ⟨⟨b, h1, h2⟩, h3⟩ => ⟨by
        cases b with
        | false => exact h1
        | true => exact absurd (h2.1 rfl) hm1, h3⟩
      clear hm1
      go_enter Tryd.func17, Tryd.ntmps17
      go_wp2_with (go_at_call 40; (with_reducible refine (HR2.out _ HB0.out).mono ?_); rintro e w1 ⟨rfl, hb1⟩; have HB1 := Lib.hid (HB.out.up (hb1.mono (by simp))); obtain ⟨⟨b0, b1⟩, ⟨b2, b3⟩, hs, hbw⟩ := HB1.out; clear hb1 hbw)
      go_ret
      exact ⟨⟨false, ret_bool (by first | rfl | simp), fun h => (by cases h), fun h => absurd h.2.1 HN.out⟩, HB1.out.2.2.2⟩
  · have i1 : ((p : Int) == (q : Int)) = false := by rw [beq_eq_false_iff_ne]; omega
    have HPQ := Lib.hid hpq
    clear hpq
    go_enter Tryd.func17, Tryd.ntmps17
    go_wp2
    go_ret
    exact ⟨⟨false, ret_bool (by first | rfl | simp), fun h => (by cases h), fun h => absurd h.1 HPQ.out⟩, HB.out.2.2.2⟩
end Go.Proofs.YtlndchmpnnlacaaDoor
