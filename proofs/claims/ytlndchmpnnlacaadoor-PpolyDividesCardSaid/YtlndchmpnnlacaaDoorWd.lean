/- Words for polynomials in memory; small lemmas. Contracts: trim, cut, at. -/
import Derived.Test.YtlndchmpnnlacaaDoorPol
import Derived.Test.YtlndchmpnnlacaaDoorField
import Derived.Maps.AppendAt
import Derived.Laws.CopyOwn
import Derived.Deep.RegionLaw
import Derived.Deep.DrawnRows
namespace Go.Proofs.YtlndchmpnnlacaaDoor
open Go.RowKit
attribute [local go_sem ↓] Go.wp_at_zero Go.wp_at_succ

theorem u32_info : (Tryd.prog.info? 22).map (fun i => (i.zero, i.size, i.bytes)) = some (some (.int .u32 0), 1, 4) := by kernel_rfl
theorem own_below {w w' : World} {base : Nat} {e : TypeId} {size n : Nat} {v : Value} {xs : List Value} (h : w.ownsRow base e size v n xs) (hb : Below w.heap.size w w') : w'.ownsRow base e size v n xs := by
  refine ⟨h.1, ?_⟩
  rcases h.2 with h | ⟨g, cap, cur, h1, h2, h3, h4⟩
  · exact .inl h
  · exact .inr ⟨g, cap, cur, h1, h2, (hb.block g (Array.getElem?_eq_some_iff.1 h3).1).trans h3, h4⟩
theorem own_drew {w : World} {base : Nat} {e : TypeId} {size n : Nat} {v : Value} {xs : List Value} (h : w.ownsRow base e size v n xs) : w.drew.ownsRow base e size v n xs := h
theorem own_heap {w : World} {base g N : Nat} {e : TypeId} {xs : List Value} (h : w.ownsRow base e 1 (.slice (some ⟨g, 0, none⟩) N N) N xs) : w.heap[g]? = some (.cells xs.toArray e (0, 0)) := by
  rcases h.2 with ⟨hv, _⟩ | ⟨g', cap, cur, hv, _, hg, _, _, hsz, ht⟩
  · simp at hv
  · simp only [Value.slice.injEq, Option.some.injEq, Addr.mk.injEq, and_true, true_and] at hv
    obtain ⟨rfl, rfl⟩ := hv
    rw [List.take_of_length_le (by rw [Array.length_toList, hsz]; exact Nat.le_refl _)] at ht
    rw [hg, ← ht]
theorem own_of_heap {w : World} {base g N : Nat} {e : TypeId} {xs : List Value} (h : w.heap[g]? = some (.cells xs.toArray e (0, 0))) (hl : xs.length = N) (hb : base ≤ g) (hm : N ≤ maxLen) : w.ownsRow base e 1 (.slice (some ⟨g, 0, none⟩) N N) N xs :=
  ⟨by rw [hl, Nat.mul_one], .inr ⟨g, N, xs.toArray, rfl, hb, h, Nat.le_refl _, hm, by simp [hl], List.take_of_length_le (by simp [hl])⟩⟩
theorem KL.src {k : IntKind} {w : World} {B : Nat} {A : Option Addr} {xs : List Int} (h : KL k w B A xs) (hp : 0 < (xs.map (Value.int k)).length) : ∃ ad, A = some ad ∧ ∀ (j : Nat) (v : Value), (xs.map (Value.int k))[j]? = some v → w.cell? (ad.add j) = some v := by
  rw [List.length_map] at hp
  obtain ⟨ad, e, _, hc⟩ := h hp
  refine ⟨ad, e, fun j v hv => ?_⟩
  have hj : j < xs.length := by
    rcases Nat.lt_or_ge j xs.length with h | h
    · exact h
    · rw [List.getElem?_eq_none (by simpa using h)] at hv; cases hv
  rw [hc j hj, ← hv, List.getElem?_map, List.getElem?_eq_getElem hj, getD_of_lt hj]
  rfl
theorem keep_grown {B : Nat} {a w w' : World} {g n c : Nat} (h : Below B a w) (hg : w.grownBy w' (Value.slice (some ⟨g, 0, none⟩) n c).ownBlock) (hs : B ≤ w.heap.size) (hB : B ≤ g) : Below B a w' :=
  h.grown hg hs fun j hj => by
    have hj' : g = j := by simpa [Value.ownBlock] using hj
    omega

/-- A slice of a call's own reads as the numbers xs: it lies from block base on, below B. -/
def KF (k : IntKind) (w : World) (base B : Nat) (A : Option Addr) (xs : List Int) : Prop :=
  0 < xs.length → ∃ ad, A = some ad ∧ base ≤ ad.block ∧ ad.block < B ∧ ∀ j, j < xs.length → w.cell? (ad.add j) = some (.int k (xs.getD j 0))
section
variable {k : IntKind} {w w' : World} {base base' B B' : Nat} {A : Option Addr} {xs : List Int}
theorem KF.kl (h : KF k w base B A xs) : KL k w B A xs := fun hn => by
  obtain ⟨ad, e, _, h2, h3⟩ := h hn
  exact ⟨ad, e, h2, h3⟩
theorem KF.keep (h : KF k w base B A xs) (hk : ∀ p : Addr, base ≤ p.block → p.block < B → w'.cell? p = w.cell? p) : KF k w' base B A xs := fun hn => by
  obtain ⟨ad, e, h1, h2, hc⟩ := h hn
  exact ⟨ad, e, h1, h2, fun j hj => (hk _ (by rw [block_of_add]; exact h1) (by rw [block_of_add]; exact h2)).trans (hc j hj)⟩
theorem KF.less (h : KF k w base B A xs) (hb : base' ≤ base) (hB : B ≤ B') : KF k w base' B' A xs := fun hn => by
  obtain ⟨ad, e, h1, h2, hc⟩ := h hn
  exact ⟨ad, e, by omega, by omega, hc⟩
/-- A store below the base leaves it. -/
theorem KF.setCell {p : Addr} {v : Value} (h : KF k w base B A xs) (hp : p.block < base) : KF k (w.setCell p v) base B A xs := h.keep fun q hq _ => World.cell?_setCell_other _ _ _ _ (fun e => by rw [e] at hp; omega)
theorem KF.of_kl (h : KL k w B A xs) : KF k w 0 B A xs := fun hn => by
  obtain ⟨ad, e, h2, h3⟩ := h hn
  exact ⟨ad, e, Nat.zero_le _, h2, h3⟩
theorem KF.below (h : KF k w base w.heap.size A xs) (hb : Below w.heap.size w w') : KF k w' base w'.heap.size A xs := (h.keep fun _ _ hp => hb.cell hp).less (Nat.le_refl _) hb.size
end
theorem KF.of_row {k : IntKind} {w : World} {base : Nat} {e : TypeId} {A : Option Addr} {n c : Nat} {zs : List Int} (h : w.ownsRow base e 1 (.slice A n c) n (zs.map (Value.int k))) : zs.length = n ∧ zs.length ≤ c ∧ KF k w base w.heap.size A zs := by
  obtain ⟨h1, h2, h3⟩ := KL.of_own h
  refine ⟨h1, h2, fun hn => ?_⟩
  obtain ⟨ad, rfl, h4, h5⟩ := h3 hn
  rcases h.2 with ⟨hv, h0⟩ | ⟨g, cap, cur, hv, hb, _⟩
  · omega
  · have : ad = ⟨g, 0, none⟩ := by injection hv with h6; injection h6
    subst this
    exact ⟨_, rfl, hb, h4, h5⟩

/-- A call hands back the polynomial xs over p: in memory of its own. -/
def MadeP (p : Nat) (xs : List Int) (w : World) (e : Ending) (w' : World) : Prop :=
  ∃ A c, e = .returned (.agg #[.int .u32 (p : Int), .slice A xs.length c]) ∧ KF .u32 w' w.heap.size w'.heap.size A xs ∧ xs.length ≤ c ∧ Below w.heap.size w w'
/-- What is stored into the cell of a result. -/
theorem madeP_end {p : Nat} {xs : List Int} {w W : World} {g c : Nat} {A : Option Addr} {u v : Value} {base : Nat} (hb : Below w.heap.size w W) (hg : w.heap.size ≤ g) (hA : KF .u32 W base W.heap.size A xs) (hgb : g < base) (hc : xs.length ≤ c) :
    MadeP p xs w (.returned (.agg #[.int .u32 (p : Int), .slice A xs.length c])) ((W.setCell ⟨g, 0, none⟩ u).setCell ⟨g, 1, none⟩ v) := by
  refine ⟨A, c, rfl, ?_, hc, (hb.setCell hg _).setCell hg _⟩
  have h1 := (hA.setCell (p := ⟨g, 0, none⟩) (v := u) hgb).setCell (p := ⟨g, 1, none⟩) (v := v) hgb
  exact h1.less (by omega) (by simp [World.setCell])
theorem cells_two {W : World} {g : Nat} {u u' v v' : Value} (h0 : W.cell? ⟨g, 0, none⟩ = some u') (h1 : W.cell? ⟨g, 1, none⟩ = some v') :
    ((W.setCell ⟨g, 0, none⟩ u).setCell ⟨g, 1, none⟩ v).cell? ⟨g, 0, none⟩ = some u ∧ ((W.setCell ⟨g, 0, none⟩ u).setCell ⟨g, 1, none⟩ v).cell? ⟨g, 1, none⟩ = some v :=
  ⟨(World.cell?_setCell_other _ _ _ _ (by simp)).trans (World.cell?_setCell_same _ _ _ h0), World.cell?_setCell_same _ _ _ ((World.cell?_setCell_other _ _ _ _ (by simp)).trans h1)⟩
end Go.Proofs.YtlndchmpnnlacaaDoor

namespace Go.Proofs.YtlndchmpnnlacaaDoor
open Go.RowKit

section
variable {p : Nat}
/-- Each is a word of 32 bits. -/
theorem Dig.w32 {xs : List Int} (h : Dig p xs) (hp : p ≤ 4294967296) : ∀ k, k < xs.length → 0 ≤ xs.getD k 0 ∧ xs.getD k 0 < 4294967296 := fun k hk => by
  have := h.at_ hk
  omega
end
set_option maxHeartbeats 1000000 in
theorem trim_any (p : Nat) (A : Option Addr) (xs : List Int) (c : Nat) (w : World) (h : KL .u32 w w.heap.size A xs) (hd : Dig 4294967296 xs) (hc : xs.length ≤ c) (hl : c ≤ 4611686018427387904) :
    Calls Tryd.prog 63 #[.int .u32 (p : Int), .slice A xs.length c] w fun e w' => e = .returned (.agg #[.int .u32 (p : Int), .slice A (trimZ xs).length (trimZ xs).length]) ∧ Below w.heap.size w w' := by
  have H : KL .u32 (w.alloc (.cells #[.int .u32 0, .slice none 0 0] 25)) w.heap.size A xs := h.below ((Below.refl _ _).alloc (Nat.le_refl _) _)
  have H := Lib.hid H; clear h
  have HD := Lib.hid hd; clear hd
  go_enter Tryd.func63, Tryd.ntmps63
  go_wp2
  go_loop [5] (fun i => ∃ k : Nat, k ≤ xs.length ∧ i = .int .i64 k ∧ ∀ j, k ≤ j → j < xs.length → xs.getD j 0 = 0) (fun i => (intOf i).toNat)
  case atStart => exact ⟨xs.length, Nat.le_refl _, rfl, fun j hj hjl => by omega⟩
  case round =>
    obtain ⟨k, hk, rfl, hall⟩ := hrel
    have HA := Lib.hid hall; clear hall
    by_cases hk0 : 0 < k
    · obtain ⟨j, hj⟩ : ∃ j, k = j + 1 := ⟨k - 1, by omega⟩
      subst hj
      obtain ⟨ad, rfl, _, hcc⟩ := H.out (by omega)
      have hcell := hcc j (by omega)
      have hr := HD.out.at_ (k := j) (by omega)
      obtain ⟨x, hx⟩ : ∃ x, xs.getD j 0 = x := ⟨_, rfl⟩
      rw [hx] at hcell hr
      have HX := Lib.hid hx
      have e1 : (((j + 1 : Nat) : Int)) - 1 = (j : Int) := by omega
      clear hcc hx
      by_cases hx0 : x = 0
      · have hb : (x == 0) = true := by simp [hx0]
        have HX0 := Lib.hid hx0; clear hx0
        go_wp2
        go_round
        case rel => exact ⟨j, by omega, by simp, fun i hi hil => by
          by_cases e : i = j
          · rw [e, HX.out]; exact HX0.out
          · exact HA.out i (by omega) hil⟩
        case measure => simp [intOf] <;> omega
      · have hb : (x == 0) = false := by simp [hx0]
        have HX0 := Lib.hid hx0; clear hx0
        have ht := take_trimZ hk (fun i hi hil => HA.out i hi hil) (fun i hi => by rw [show i = j by omega, HX.out]; exact HX0.out)
        have hlen : (trimZ xs).length = j + 1 := by rw [← ht, List.length_take]; omega
        have HL := Lib.hid hlen
        clear ht hlen
        go_wp2
        refine bodyPost_ret (v := .agg #[.int .u32 (p : Int), .slice (some ad) (j + 1) (j + 1)]) (by simp [results, Tryd.results63, go_sem]) rfl ?_
        exact ⟨by rw [HL.out], by go_grown⟩
    · obtain rfl : k = 0 := by omega
      have ht := take_trimZ hk (fun i hi hil => HA.out i hi hil) (fun i hi => by omega)
      have hlen : (trimZ xs).length = 0 := by rw [← ht]; simp
      have HL := Lib.hid hlen
      clear ht hlen
      go_wp2
      refine bodyPost_ret (v := .agg #[.int .u32 (p : Int), .slice A 0 0]) (by simp [results, Tryd.results63, go_sem]) rfl ?_
      exact ⟨by rw [HL.out], by go_grown⟩
set_option maxHeartbeats 1000000 in
theorem cut_any (p : Nat) (A : Option Addr) (xs : List Int) (c : Nat) (w : World) (h : KL .u32 w w.heap.size A xs) (hd : Dig 4294967296 xs) (hc : xs.length ≤ c) (hl : c ≤ 4611686018427387904) :
    Calls Tryd.prog 64 #[.int .u32 (p : Int), .slice A xs.length c] w fun e w' => e = .returned (.agg #[.int .u32 (p : Int), .slice A (trimZ xs).length c]) ∧ Below w.heap.size w w' := by
  have H : KL .u32 (w.alloc (.cells #[.int .u32 0, .slice none 0 0] 25)) w.heap.size A xs := h.below ((Below.refl _ _).alloc (Nat.le_refl _) _)
  have H := Lib.hid H; clear h
  have HD := Lib.hid hd; clear hd
  go_enter Tryd.func64, Tryd.ntmps64
  go_wp2
  go_loop [5] (fun i => ∃ k : Nat, k ≤ xs.length ∧ i = .int .i64 k ∧ ∀ j, k ≤ j → j < xs.length → xs.getD j 0 = 0) (fun i => (intOf i).toNat)
  case atStart => exact ⟨xs.length, Nat.le_refl _, rfl, fun j hj hjl => by omega⟩
  case round =>
    obtain ⟨k, hk, rfl, hall⟩ := hrel
    have HA := Lib.hid hall; clear hall
    by_cases hk0 : 0 < k
    · obtain ⟨j, hj⟩ : ∃ j, k = j + 1 := ⟨k - 1, by omega⟩
      subst hj
      obtain ⟨ad, rfl, _, hcc⟩ := H.out (by omega)
      have hcell := hcc j (by omega)
      have hr := HD.out.at_ (k := j) (by omega)
      obtain ⟨x, hx⟩ : ∃ x, xs.getD j 0 = x := ⟨_, rfl⟩
      rw [hx] at hcell hr
      have HX := Lib.hid hx
      have e1 : (((j + 1 : Nat) : Int)) - 1 = (j : Int) := by omega
      clear hcc hx
      by_cases hx0 : x = 0
      · have hb : (x == 0) = true := by simp [hx0]
        have HX0 := Lib.hid hx0; clear hx0
        go_wp2
        go_round
        case rel => exact ⟨j, by omega, by simp, fun i hi hil => by
          by_cases e : i = j
          · rw [e, HX.out]; exact HX0.out
          · exact HA.out i (by omega) hil⟩
        case measure => simp [intOf] <;> omega
      · have hb : (x == 0) = false := by simp [hx0]
        have HX0 := Lib.hid hx0; clear hx0
        have ht := take_trimZ hk (fun i hi hil => HA.out i hi hil) (fun i hi => by rw [show i = j by omega, HX.out]; exact HX0.out)
        have hlen : (trimZ xs).length = j + 1 := by rw [← ht, List.length_take]; omega
        have HL := Lib.hid hlen
        clear ht hlen
        go_wp2
        refine bodyPost_ret (v := .agg #[.int .u32 (p : Int), .slice (some ad) (j + 1) c]) (by simp [results, Tryd.results64, go_sem]) rfl ?_
        exact ⟨by rw [HL.out], by go_grown⟩
    · obtain rfl : k = 0 := by omega
      have ht := take_trimZ hk (fun i hi hil => HA.out i hi hil) (fun i hi => by omega)
      have hlen : (trimZ xs).length = 0 := by rw [← ht]; simp
      have HL := Lib.hid hlen
      clear ht hlen
      go_wp2
      refine bodyPost_ret (v := .agg #[.int .u32 (p : Int), .slice A 0 c]) (by simp [results, Tryd.results64, go_sem]) rfl ?_
      exact ⟨by rw [HL.out], by go_grown⟩
set_option maxHeartbeats 1000000 in
theorem at_any (p i : Nat) (A : Option Addr) (xs : List Int) (c : Nat) (w : World) (h : KL .u32 w w.heap.size A xs) (hd : Dig 4294967296 xs) (hi : i ≤ 4611686018427387904) :
    Calls Tryd.prog 62 #[.agg #[.int .u32 (p : Int), .slice A xs.length c], .int .i64 (i : Int)] w fun e w' => e = .returned (.int .u64 (co xs i)) ∧ Below w.heap.size w w' := by
  have H : KL .u32 (w.alloc (.cells #[.int .u32 (p : Int), .slice A xs.length c] 25)) w.heap.size A xs := h.below ((Below.refl _ _).alloc (Nat.le_refl _) _)
  have H := Lib.hid H; clear h
  have hi0 : (0 : Int) ≤ (i : Int) := by omega
  have hlt0 : decide ((i : Int) < 0) = false := by simp
  by_cases hlt : i < xs.length
  · obtain ⟨ad, rfl, _, hcc⟩ := H.out (by omega)
    have hcell := hcc i hlt
    have hr := hd.at_ hlt
    obtain ⟨x, hx⟩ : ∃ x, xs.getD i 0 = x := ⟨_, rfl⟩
    rw [hx] at hcell hr
    have HX : Hid (co xs i = x) := Lib.hid hx
    have hlt1 : (i : Int) < (xs.length : Int) := by omega
    have hge : decide ((xs.length : Int) ≤ (i : Int)) = false := by simp; omega
    clear hcc hx hd
    go_enter Tryd.func62, Tryd.ntmps62
    go_wp2
    go_ret
    exact ⟨ret_int (by rw [HX.out]), by go_grown⟩
  · have HX : Hid (co xs i = 0) := Lib.hid (co_beyond (by omega))
    have hge : decide ((xs.length : Int) ≤ (i : Int)) = true := by simp; omega
    clear hd
    go_enter Tryd.func62, Tryd.ntmps62
    go_wp2
    go_ret
    exact ⟨ret_int (by rw [HX.out]), by go_grown⟩
end Go.Proofs.YtlndchmpnnlacaaDoor
