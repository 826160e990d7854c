/- Contracts in the form that the laws' walks use. -/
import Derived.Test.YtlndchmpnnlacaaDoorLawR
import Derived.Test.YtlndchmpnnlacaaDoorDiff
namespace Go.Proofs.YtlndchmpnnlacaaDoor
open Go.RowKit

/-- Three polynomials in their boxes. -/
def Box3 (w : World) (p : Nat) (v0 v1 v2 : Value) (W : World) : Prop :=
  ((W.cell? ⟨w.heap.size, 0, none⟩ = some (.int .u32 (p : Int)) ∧ W.cell? ⟨w.heap.size, 1, none⟩ = some v0) ∧ (W.cell? ⟨w.heap.size + 1, 0, none⟩ = some (.int .u32 (p : Int)) ∧ W.cell? ⟨w.heap.size + 1, 1, none⟩ = some v1) ∧
    (W.cell? ⟨w.heap.size + 1 + 1, 0, none⟩ = some (.int .u32 (p : Int)) ∧ W.cell? ⟨w.heap.size + 1 + 1, 1, none⟩ = some v2)) ∧ w.heap.size + 1 + 1 + 1 ≤ W.heap.size ∧ Below w.heap.size w W
theorem Box3.up {w : World} {p : Nat} {v0 v1 v2 : Value} {W W' : World} (h : Box3 w p v0 v1 v2 W) (hb : Below (w.heap.size + 1 + 1 + 1) W W') : Box3 w p v0 v1 v2 W' := by
  obtain ⟨⟨⟨h1, h2⟩, ⟨k1, k2⟩, ⟨l1, l2⟩⟩, h3, h4⟩ := h
  have c : ∀ b o, b < w.heap.size + 1 + 1 + 1 → W'.cell? ⟨b, o, none⟩ = W.cell? ⟨b, o, none⟩ := fun b o h => hb.cell (p := ⟨b, o, none⟩) h
  exact ⟨⟨⟨(c _ _ (by omega)).trans h1, (c _ _ (by omega)).trans h2⟩, ⟨(c _ _ (by omega)).trans k1, (c _ _ (by omega)).trans k2⟩, ⟨(c _ _ (by omega)).trans l1, (c _ _ (by omega)).trans l2⟩⟩, Nat.le_trans h3 hb.size, h4.trans (hb.mono (by omega))⟩
section
variable {p : Nat} {x y z : List Int} {W0 : World}
theorem mulP_le (p : Nat) (x y : List Int) : (mulP p x y).length ≤ x.length + y.length := Nat.le_trans (cano_len _ _ _) (by omega)
theorem addP_le (p : Nat) (x y : List Int) : (addP p x y).length ≤ x.length + y.length := Nat.le_trans (cano_len _ _ _) (by omega)
theorem derP_le (p : Nat) (x : List Int) : (derP p x).length ≤ x.length := Nat.le_trans (cano_len _ _ _) (by omega)
theorem pmul (hp : p ≤ 2147483647) (hp0 : 0 < p) (hx : Pol p x) (hy : Pol p y) (lx : x.length ≤ 1000000) (ly : y.length ≤ 1000000) (hz : mulP p x y = z) : ∀ (W : World) (A B : Option Addr) (c d : Nat), Below W0.heap.size W0 W → KL .u32 W W.heap.size A x → x.length ≤ c → KL .u32 W W.heap.size B y →
    Calls Tryd.prog 34 #[.agg #[.int .u32 (p : Int), .slice A x.length c], .agg #[.int .u32 (p : Int), .slice B y.length d]] W (PM p z W0 W) := fun W A B c d hb hA hc hB => by
  rw [← hz]
  exact (mul_any p A B x y c d W hA hB hp hp0 hx.1 hy.1 (by omega) (by omega) hc).mono (pm_of hb)
theorem padd (hp : p ≤ 2147483647) (hp0 : 0 < p) (hx : Pol p x) (hy : Pol p y) (lx : x.length ≤ 1000000) (ly : y.length ≤ 1000000) (hz : addP p x y = z) : ∀ (W : World) (A B : Option Addr) (c d : Nat), Below W0.heap.size W0 W → KL .u32 W W.heap.size A x → x.length ≤ c → KL .u32 W W.heap.size B y →
    Calls Tryd.prog 30 #[.agg #[.int .u32 (p : Int), .slice A x.length c], .agg #[.int .u32 (p : Int), .slice B y.length d]] W (PM p z W0 W) := fun W A B c d hb hA _ hB => by
  rw [← hz]
  exact (add_any p A B x y c d W hA hB hp hp0 hx.1 hy.1 (by omega) (by omega)).mono (pm_of hb)
theorem pdiff (hp : p ≤ 2147483647) (hp0 : 0 < p) (hx : Pol p x) (lx : x.length ≤ 1000000) (hz : derP p x = z) : ∀ (W : World) (A : Option Addr) (c : Nat), Below W0.heap.size W0 W → KL .u32 W W.heap.size A x →
    Calls Tryd.prog 26 #[.agg #[.int .u32 (p : Int), .slice A x.length c]] W (PM p z W0 W) := fun W A c hb hA => by
  rw [← hz]
  exact (diff_any p A x c W hA hp hp0 hx.1 (by omega)).mono (pm_of hb)
theorem psame (hp : p ≤ 2147483647) (hx : Pol p x) (hy : Pol p y) (lx : x.length ≤ 1000000) (ly : y.length ≤ 1000000) (hxy : x = y) : ∀ (W : World) (A B : Option Addr) (c d : Nat), Below W0.heap.size W0 W → KL .u32 W W.heap.size A x → KL .u32 W W.heap.size B y →
    Calls Tryd.prog 16 #[.agg #[.int .u32 (p : Int), .slice A x.length c], .agg #[.int .u32 (p : Int), .slice B y.length d]] W fun e w' => e = .returned (.bool true) ∧ Below W0.heap.size W0 w' ∧ Below W.heap.size W w' := fun W A B c d hb hA hB => by
  refine (rsame_any p p A B x y c d W hA hB (hx.1.w (by omega)) (hy.1.w (by omega)) (by omega) (by omega)).mono fun e w' ⟨h1, h2⟩ => ⟨?_, hb.trans (h2.mono hb.size), h2⟩
  rw [h1, hxy]
  unfold eqP
  simp
theorem pvalue {k v : Nat} (hp : p ≤ 2147483647) (hp0 : 0 < p) (hx : Pol p x) (lx : x.length ≤ 1000000) (hk : k < p) (hv : valZ x k % p = (v : Int)) : ∀ (W : World) (A : Option Addr) (c : Nat), Below W0.heap.size W0 W → KL .u32 W W.heap.size A x →
    Calls Tryd.prog 24 #[.agg #[.int .u32 (p : Int), .slice A x.length c], .int .u32 (k : Int)] W fun e w' => e = .returned (.int .u32 (v : Int)) ∧ Below W0.heap.size W0 w' ∧ Below W.heap.size W w' := fun W A c hb hA =>
  (value_any p k A x c W hA hp hp0 hx.1 hk lx).mono fun e w' ⟨h1, h2⟩ => ⟨by rw [h1, hv], hb.trans (h2.mono hb.size), h2⟩
theorem kl_at {w : World} {A : Option Addr} (h : KL .u32 w w.heap.size A x) (hw : Below w.heap.size w W0) : ∀ W : World, Below W0.heap.size W0 W → KL .u32 W W.heap.size A x := fun _ hb => (h.up hw).up hb
end
end Go.Proofs.YtlndchmpnnlacaaDoor
