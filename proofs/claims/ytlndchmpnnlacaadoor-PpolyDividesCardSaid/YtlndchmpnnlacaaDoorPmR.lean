/- Contracts of the reference in the form that the laws' walks use. -/
import Derived.Test.YtlndchmpnnlacaaDoorPm
import Derived.Test.YtlndchmpnnlacaaDoorRefB
import Derived.Test.YtlndchmpnnlacaaDoorRefC
namespace Go.Proofs.YtlndchmpnnlacaaDoor
open Go.RowKit

section
variable {p : Nat} {x y z : List Int} {W0 : World}
theorem psub (hp : p ≤ 2147483647) (hp0 : 0 < p) (hx : Pol p x) (hy : Pol p y) (lx : x.length ≤ 1000000) (ly : y.length ≤ 1000000) (hz : subP p x y = z) : ∀ (W : World) (A B : Option Addr) (c d : Nat), Below W0.heap.size W0 W → KL .u32 W W.heap.size A x → x.length ≤ c → KL .u32 W W.heap.size B y →
    Calls Tryd.prog 32 #[.agg #[.int .u32 (p : Int), .slice A x.length c], .agg #[.int .u32 (p : Int), .slice B y.length d]] W (PM p z W0 W) := fun W A B c d hb hA _ hB => by
  rw [← hz]
  exact (sub_any p A B x y c d W hA hB hp hp0 hx.1 hy.1 (by omega) (by omega)).mono (pm_of hb)
theorem prsub (hp : p ≤ 2147483647) (hp0 : 0 < p) (hx : Pol p x) (hy : Pol p y) (lx : x.length ≤ 1000000) (ly : y.length ≤ 1000000) (hz : subP p x y = z) : ∀ (W : World) (A B : Option Addr) (c d : Nat), Below W0.heap.size W0 W → KL .u32 W W.heap.size A x → x.length ≤ c → KL .u32 W W.heap.size B y →
    Calls Tryd.prog 33 #[.agg #[.int .u32 (p : Int), .slice A x.length c], .agg #[.int .u32 (p : Int), .slice B y.length d]] W (PM p z W0 W) := fun W A B c d hb hA _ hB => by
  rw [← hz]
  exact (rsub_any p A B x y c d W hA hB hp hp0 hx.1 hy.1 lx ly).mono (pm_of hb)
theorem pradd (hp : p ≤ 2147483647) (hp0 : 0 < p) (hx : Pol p x) (hy : Pol p y) (lx : x.length ≤ 1000000) (ly : y.length ≤ 1000000) (hz : addP p x y = z) : ∀ (W : World) (A B : Option Addr) (c d : Nat), Below W0.heap.size W0 W → KL .u32 W W.heap.size A x → x.length ≤ c → KL .u32 W W.heap.size B y →
    Calls Tryd.prog 31 #[.agg #[.int .u32 (p : Int), .slice A x.length c], .agg #[.int .u32 (p : Int), .slice B y.length d]] W (PM p z W0 W) := fun W A B c d hb hA _ hB => by
  rw [← hz]
  exact (radd_any p A B x y c d W hA hB hp hp0 hx.1 hy.1 lx ly).mono (pm_of hb)
theorem prmul (hp : p ≤ 2147483647) (hp0 : 0 < p) (hx : Pol p x) (hy : Pol p y) (lx : x.length ≤ 1000000) (ly : y.length ≤ 1000000) (hz : mulP p x y = z) : ∀ (W : World) (A B : Option Addr) (c d : Nat), Below W0.heap.size W0 W → KL .u32 W W.heap.size A x → x.length ≤ c → KL .u32 W W.heap.size B y →
    Calls Tryd.prog 35 #[.agg #[.int .u32 (p : Int), .slice A x.length c], .agg #[.int .u32 (p : Int), .slice B y.length d]] W (PM p z W0 W) := fun W A B c d hb hA _ hB => by
  rw [← hz]
  exact (rmul_any p A B x y c d W hA hB hp hp0 hx.1 hy.1 lx ly).mono (pm_of hb)
theorem prdiff (hp : p ≤ 2147483647) (hp0 : 0 < p) (hx : Pol p x) (lx : x.length ≤ 1000000) (hz : derP p x = z) : ∀ (W : World) (A : Option Addr) (c : Nat), Below W0.heap.size W0 W → KL .u32 W W.heap.size A x →
    Calls Tryd.prog 27 #[.agg #[.int .u32 (p : Int), .slice A x.length c]] W (PM p z W0 W) := fun W A c hb hA => by
  rw [← hz]
  exact (rdiff_any p A x c W hA hp hp0 hx.1 lx).mono (pm_of hb)
theorem pscale {k : Nat} (hp : p ≤ 2147483647) (hp0 : 0 < p) (hx : Pol p x) (lx : x.length ≤ 1000000) (hk : k < p) (hz : scaleP p k x = z) : ∀ (W : World) (A : Option Addr) (c : Nat), Below W0.heap.size W0 W → KL .u32 W W.heap.size A x →
    Calls Tryd.prog 28 #[.agg #[.int .u32 (p : Int), .slice A x.length c], .int .u32 (k : Int)] W (PM p z W0 W) := fun W A c hb hA => by
  rw [← hz]
  exact (scale_any p k A x c W hA hp hp0 hx.1 hk (by omega)).mono (pm_of hb)
theorem prscale {k : Nat} (hp : p ≤ 2147483647) (hp0 : 0 < p) (hx : Pol p x) (lx : x.length ≤ 1000000) (hk : k < p) (hz : scaleP p k x = z) : ∀ (W : World) (A : Option Addr) (c : Nat), Below W0.heap.size W0 W → KL .u32 W W.heap.size A x →
    Calls Tryd.prog 29 #[.agg #[.int .u32 (p : Int), .slice A x.length c], .int .u32 (k : Int)] W (PM p z W0 W) := fun W A c hb hA => by
  rw [← hz]
  exact (rscale_any p k A x c W hA hp hp0 hx.1 hk lx).mono (pm_of hb)
theorem prvalue {k v : Nat} (hp : p ≤ 2147483647) (hp0 : 0 < p) (hx : Pol p x) (lx : x.length ≤ 1000000) (hk : k < p) (hv : valZ x k % p = (v : Int)) : ∀ (W : World) (A : Option Addr) (c : Nat), Below W0.heap.size W0 W → KL .u32 W W.heap.size A x →
    Calls Tryd.prog 25 #[.agg #[.int .u32 (p : Int), .slice A x.length c], .int .u32 (k : Int)] W fun e w' => e = .returned (.int .u32 (v : Int)) ∧ Below W0.heap.size W0 w' ∧ Below W.heap.size W w' := fun W A c hb hA =>
  (rvalue_any p k A x c W hA hp hp0 hx.1 hk lx).mono fun e w' ⟨h1, h2⟩ => ⟨by rw [h1, hv], hb.trans (h2.mono hb.size), h2⟩
end
end Go.Proofs.YtlndchmpnnlacaaDoor
