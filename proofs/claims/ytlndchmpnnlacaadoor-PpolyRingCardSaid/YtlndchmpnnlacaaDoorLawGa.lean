/- The walk of PpolyRing, the other cases. -/
import Derived.Test.YtlndchmpnnlacaaDoorLawG
import Derived.Test.YtlndchmpnnlacaaDoorPair
namespace Go.Proofs.YtlndchmpnnlacaaDoor
open Go.RowKit

set_option maxHeartbeats 1000000 in
theorem law_ring_no (p q r a : Nat) (A B D : Option Addr) (f g h : List Int) (c d e : Nat) (w : World) (hg : TabG w) (kA : KL .u32 w w.heap.size A f) (kB : KL .u32 w w.heap.size B g) (kD : KL .u32 w w.heap.size D h)
    (hp : p ≤ 4294967295) (hq : q ≤ 4294967295) (hr : r ≤ 4294967295) (df : Dig 4294967296 f) (dg : Dig 4294967296 g) (dh : Dig 4294967296 h) (mf : f.length ≤ maxLen) (mg : g.length ≤ maxLen) (mh : h.length ≤ maxLen)
    (hn : ¬ ((p = q ∧ (f.length ≤ 8 + 1 ∧ MayP p f) ∧ (g.length ≤ 8 + 1 ∧ MayP q g)) ∧ (p = r ∧ (f.length ≤ 8 + 1 ∧ MayP p f) ∧ (h.length ≤ 8 + 1 ∧ MayP r h)))) :
    Calls Tryd.prog 10 #[.agg #[.int .u32 (p : Int), .slice A f.length c], .agg #[.int .u32 (q : Int), .slice B g.length d], .agg #[.int .u32 (r : Int), .slice D h.length e], .int .u32 (a : Int)] w fun e w' => e = .returned (.bool true) ∧ Below w.heap.size w w' := by
  obtain ⟨t, ht⟩ := bool_of (p = q ∧ (f.length ≤ 8 + 1 ∧ MayP p f) ∧ (g.length ≤ 8 + 1 ∧ MayP q g))
  obtain ⟨s, hs⟩ := bool_of (p = r ∧ (f.length ≤ 8 + 1 ∧ MayP p f) ∧ (h.length ≤ 8 + 1 ∧ MayP r h))
  have HAWK : Hid (∀ W : World, Below w.heap.size w W → Calls Tryd.prog 12 #[] W fun e w' => e = .returned (.bool true) ∧ Below W.heap.size W w') := Lib.hid fun W hW => awake_any W (hg.up hW)
  have HP1 : Hid (∀ W : World, Below w.heap.size w W → Calls Tryd.prog 17 #[.agg #[.int .u32 (p : Int), .slice A f.length c], .agg #[.int .u32 (q : Int), .slice B g.length d], .int .i64 8] W fun e w' => e = .returned (.bool t) ∧ Below W.heap.size W w') := Lib.hid fun W hW =>
    (pair_all p q 8 A B f g c d W (kA.up hW) (kB.up hW) hp hq df dg mf mg (by omega)).mono fun e w' ⟨⟨b, h1, h2⟩, h3⟩ => ⟨by rw [h1, Bool.eq_iff_iff.2 (h2.trans ht.symm)], h3⟩
  have HP2 : Hid (∀ W : World, Below w.heap.size w W → Calls Tryd.prog 17 #[.agg #[.int .u32 (p : Int), .slice A f.length c], .agg #[.int .u32 (r : Int), .slice D h.length e], .int .i64 8] W fun e w' => e = .returned (.bool s) ∧ Below W.heap.size W w') := Lib.hid fun W hW =>
    (pair_all p r 8 A D f h c e W (kA.up hW) (kD.up hW) hp hr df dh mf mh (by omega)).mono fun e w' ⟨⟨b, h1, h2⟩, h3⟩ => ⟨by rw [h1, Bool.eq_iff_iff.2 (h2.trans hs.symm)], h3⟩
  have HB0 : Hid (∀ W : World, Below (w.heap.size + 1 + 1 + 1) (((w.alloc (.cells #[.int .u32 (p : Int), .slice A f.length c] 25)).alloc (.cells #[.int .u32 (q : Int), .slice B g.length d] 25)).alloc (.cells #[.int .u32 (r : Int), .slice D h.length e] 25)) W → ((W.cell? ⟨w.heap.size, 0, none⟩ = some (.int .u32 (p : Int)) ∧ W.cell? ⟨w.heap.size, 1, none⟩ = some (.slice A f.length c)) ∧ (W.cell? ⟨w.heap.size + 1, 0, none⟩ = some (.int .u32 (q : Int)) ∧ W.cell? ⟨w.heap.size + 1, 1, none⟩ = some (.slice B g.length d)) ∧ (W.cell? ⟨w.heap.size + 1 + 1, 0, none⟩ = some (.int .u32 (r : Int)) ∧ W.cell? ⟨w.heap.size + 1 + 1, 1, none⟩ = some (.slice D h.length e))) ∧ Below w.heap.size w W) := Lib.hid fun W hW =>
    ⟨⟨⟨(hW.cell (p := ⟨w.heap.size, 0, none⟩) (by show w.heap.size < _; omega)).trans (by go_cell), (hW.cell (p := ⟨w.heap.size, 1, none⟩) (by show w.heap.size < _; omega)).trans (by go_cell)⟩, ⟨(hW.cell (p := ⟨w.heap.size + 1, 0, none⟩) (by show w.heap.size + 1 < _; omega)).trans (by go_cell), (hW.cell (p := ⟨w.heap.size + 1, 1, none⟩) (by show w.heap.size + 1 < _; omega)).trans (by go_cell)⟩, (hW.cell (p := ⟨w.heap.size + 1 + 1, 0, none⟩) (by show w.heap.size + 1 + 1 < _; omega)).trans (by go_cell), (hW.cell (p := ⟨w.heap.size + 1 + 1, 1, none⟩) (by show w.heap.size + 1 + 1 < _; omega)).trans (by go_cell)⟩,
      Below.trans (b := (((w.alloc (.cells #[.int .u32 (p : Int), .slice A f.length c] 25)).alloc (.cells #[.int .u32 (q : Int), .slice B g.length d] 25)).alloc (.cells #[.int .u32 (r : Int), .slice D h.length e] 25))) (by go_grown) (hW.mono (by omega))⟩
  have hts : t = true → s = false := fun h1 => by
    cases s with
    | false => rfl
    | true => exact absurd ⟨ht.1 h1, hs.1 rfl⟩ hn
  clear kA kB kD hg df dg dh ht hs hn
  by_cases htt : t = true
  · have i3 : (!t) = false := by simp [htt]
    have i4 : (!s) = true := by simp [hts htt]
    clear hts htt
    go_enter Tryd.func10, Tryd.ntmps10
    go_wp2_with (first
      | (go_at_call 12; (with_reducible refine (HAWK.out _ (by go_grown)).mono ?_); rintro e w1 ⟨rfl, hb1⟩; have HW1 := Lib.hid (hb1.mono (by simp) : Below (w.heap.size + 1 + 1 + 1) _ w1); obtain ⟨⟨⟨f0, f1⟩, ⟨g0, g1⟩, ⟨h0, h1⟩⟩, hbw1⟩ := HB0.out _ HW1.out; clear hb1)
      | (go_at_call 17; (with_reducible refine (HP1.out _ hbw1).mono ?_); rintro e w2 ⟨rfl, hb2⟩; have HW2 := Lib.hid (HW1.out.trans (hb2.mono (by have := HW1.out.size; simp at this; omega))); clear f0 f1 g0 g1 h0 h1; obtain ⟨⟨⟨f0, f1⟩, ⟨g0, g1⟩, ⟨h0, h1⟩⟩, hbw2⟩ := HB0.out _ HW2.out; clear hb2)
      | (go_at_call 17; (with_reducible refine (HP2.out _ hbw2).mono ?_); rintro e w3 ⟨rfl, hb3⟩; have HB3 := Lib.hid (below_chain hbw2 hb3); clear hb3))
    go_ret
    exact ⟨rfl, HB3.out⟩
  · have i3 : (!t) = true := by simp [htt]
    clear hts htt
    go_enter Tryd.func10, Tryd.ntmps10
    go_wp2_with (first
      | (go_at_call 12; (with_reducible refine (HAWK.out _ (by go_grown)).mono ?_); rintro e w1 ⟨rfl, hb1⟩; have HW1 := Lib.hid (hb1.mono (by simp) : Below (w.heap.size + 1 + 1 + 1) _ w1); obtain ⟨⟨⟨f0, f1⟩, ⟨g0, g1⟩, ⟨h0, h1⟩⟩, hbw1⟩ := HB0.out _ HW1.out; clear hb1)
      | (go_at_call 17; (with_reducible refine (HP1.out _ hbw1).mono ?_); rintro e w2 ⟨rfl, hb2⟩; have HB3 := Lib.hid (below_chain hbw1 hb2); clear hb2))
    go_ret
    exact ⟨rfl, HB3.out⟩
theorem law_ring (p : Nat) (A : Option Addr) (f : List Int) (c : Nat) (q : Nat) (B : Option Addr) (g : List Int) (d : Nat) (r : Nat) (D : Option Addr) (h : List Int) (e : Nat) (a : Nat) (w : World) (hg : TabG w) (hp : p ≤ 4294967295) (kA : KL .u32 w w.heap.size A f) (df : Dig 4294967296 f) (cf : f.length ≤ c) (mf : f.length ≤ maxLen)
    (hq : q ≤ 4294967295) (kB : KL .u32 w w.heap.size B g) (dg : Dig 4294967296 g) (cg : g.length ≤ d) (mg : g.length ≤ maxLen) (hr : r ≤ 4294967295) (kD : KL .u32 w w.heap.size D h) (dh : Dig 4294967296 h) (ch : h.length ≤ e) (mh : h.length ≤ maxLen) (ha : a ≤ 4294967295) :
    Calls Tryd.prog 10 #[.agg #[.int .u32 (p : Int), .slice A f.length c], .agg #[.int .u32 (q : Int), .slice B g.length d], .agg #[.int .u32 (r : Int), .slice D h.length e], .int .u32 (a : Int)] w fun e w' => e = .returned (.bool true) ∧ Below w.heap.size w w' := by
  by_cases hn : ((p = q ∧ (f.length ≤ 8 + 1 ∧ MayP p f) ∧ (g.length ≤ 8 + 1 ∧ MayP q g)) ∧ (p = r ∧ (f.length ≤ 8 + 1 ∧ MayP p f) ∧ (h.length ≤ 8 + 1 ∧ MayP r h)))
  · obtain ⟨⟨rfl, ⟨l1, m1⟩, l2, m2⟩, ⟨rfl, _, l3, m3⟩⟩ := hn
    exact law_ring_yes p a A B D f g h c d e w hg kA kB kD m1 m2 m3 l1 l2 l3 cf cg ch ha
  · exact law_ring_no p q r a A B D f g h c d e w hg kA kB kD hp hq hr df dg dh mf mg mh hn
end Go.Proofs.YtlndchmpnnlacaaDoor
