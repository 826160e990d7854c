/- The walk of PpolySums, the other cases. -/
import Derived.Test.YtlndchmpnnlacaaDoorLawS
import Derived.Test.YtlndchmpnnlacaaDoorPair
namespace Go.Proofs.YtlndchmpnnlacaaDoor
open Go.RowKit

set_option maxHeartbeats 1000000 in
theorem law_sums_no (p q : Nat) (a : Nat) (A B : Option Addr) (f g : List Int) (c d : Nat) (w : World) (hg : TabG w) (kA : KL .u32 w w.heap.size A f) (kB : KL .u32 w w.heap.size B g)
    (hp : p ≤ 4294967295) (hq : q ≤ 4294967295) (df : Dig 4294967296 f) (dg : Dig 4294967296 g) (mf : f.length ≤ maxLen) (mg : g.length ≤ maxLen)
    (hn : ¬ (p = q ∧ (f.length ≤ 20 + 1 ∧ MayP p f) ∧ (g.length ≤ 20 + 1 ∧ MayP q g))) :
    Calls Tryd.prog 4 #[.agg #[.int .u32 (p : Int), .slice A f.length c], .agg #[.int .u32 (q : Int), .slice B g.length d], .int .u32 (a : Int)] w fun e w' => e = .returned (.bool true) ∧ Below w.heap.size w w' := by
  have HB0 := Lib.hid (box2_start w p q (.slice A f.length c) (.slice B g.length d) 25 25)
  have HAWK : Hid (∀ W : World, Below w.heap.size w W → Calls Tryd.prog 12 #[] W fun e w' => e = .returned (.bool true) ∧ Below W.heap.size W w') := Lib.hid fun W hW => awake_any W (hg.up hW)
  have HP1 : Hid (∀ W : World, Below w.heap.size w W → Calls Tryd.prog 17 #[.agg #[.int .u32 (p : Int), .slice A f.length c], .agg #[.int .u32 (q : Int), .slice B g.length d], .int .i64 20] W fun e w' => e = .returned (.bool false) ∧ Below W.heap.size W w') := Lib.hid fun W hW =>
    (pair_all p q 20 A B f g c d W (kA.up hW) (kB.up hW) hp hq df dg mf mg (by omega)).mono fun e w' ⟨⟨b, h1, h2⟩, h3⟩ => ⟨by
      cases b with
      | false => exact h1
      | true => exact absurd (h2.1 rfl) hn, h3⟩
  clear kA kB hg df dg hn
  go_enter Tryd.func4, Tryd.ntmps4
  go_wp2_with (first
    | (go_at_call 12; (with_reducible refine (HAWK.out _ (by go_grown)).mono ?_); rintro e w1 ⟨rfl, hb1⟩; have HW1 := Lib.hid (HB0.out.up (hb1.mono (by simp))); obtain ⟨⟨f0, f1⟩, ⟨g0, g1⟩, hz1, hbw1⟩ := HW1.out; clear hb1)
    | (go_at_call 17; (with_reducible refine (HP1.out _ hbw1).mono ?_); rintro e w2 ⟨rfl, hb2⟩; have HB3 := Lib.hid (below_chain hbw1 hb2); clear hb2))
  go_ret
  exact ⟨rfl, HB3.out⟩
theorem law_sums (p : Nat) (A : Option Addr) (f : List Int) (c : Nat) (q : Nat) (B : Option Addr) (g : List Int) (d : Nat) (a : Nat) (w : World) (hg : TabG w) (hp : p ≤ 4294967295) (kA : KL .u32 w w.heap.size A f) (df : Dig 4294967296 f) (cf : f.length ≤ c) (mf : f.length ≤ maxLen)
    (hq : q ≤ 4294967295) (kB : KL .u32 w w.heap.size B g) (dg : Dig 4294967296 g) (cg : g.length ≤ d) (mg : g.length ≤ maxLen) (ha : a ≤ 4294967295) :
    Calls Tryd.prog 4 #[.agg #[.int .u32 (p : Int), .slice A f.length c], .agg #[.int .u32 (q : Int), .slice B g.length d], .int .u32 (a : Int)] w fun e w' => e = .returned (.bool true) ∧ Below w.heap.size w w' := by
  by_cases hn : p = q ∧ (f.length ≤ 20 + 1 ∧ MayP p f) ∧ (g.length ≤ 20 + 1 ∧ MayP q g)
  · obtain ⟨rfl, ⟨l1, m1⟩, l2, m2⟩ := hn
    exact law_sums_yes p a A B f g c d w hg kA kB m1 m2 l1 l2 cf cg ha
  · exact law_sums_no p q a A B f g c d w hg kA kB hp hq df dg mf mg hn
end Go.Proofs.YtlndchmpnnlacaaDoor
