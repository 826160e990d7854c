/- slices.Backward over a slice of uint32, and the contract of Value. Contracts: sum of two. -/
import Derived.RangeFuncNested
import Derived.RangeFuncBound
import Derived.RangeFuncBox
import Derived.RangeFuncCalls
import Derived.RangeFuncLeaves
import Derived.Shelf.Abstract
import Derived.Shelf.RegionOpen
import Derived.WalkKit
import Derived.OwnWalkIn
import Derived.TacticsInMore
import Derived.LoopNIn
import Derived.LoopIn
import Derived.Test.YtlndchmpnnlacaaDoorGcd
import Derived.Test.YtlndchmpnnlacaaDoorTail
namespace Go.Proofs.YtlndchmpnnlacaaDoor
open Go.RowKit Go.Shelf
attribute [local go_sem] Oper.semAt_some

/-- The elements of a slice of numbers below p. -/
abbrev Low (p : Nat) : Type := { x : Int // 0 ≤ x ∧ x < p }
theorem dig_at {p : Nat} {xs : List Int} (hd : Dig p xs) (hp : 0 < p) (i : Nat) : 0 ≤ xs.getD i 0 ∧ xs.getD i 0 < p := by
  rcases Nat.lt_or_ge i xs.length with h | h
  · rw [getD_of_lt h]; exact hd _ (List.getElem_mem h)
  · rw [List.getD_eq_getElem?_getD, List.getElem?_eq_none h]; simp; omega
/-- What has come when k rounds of a range from the end are over. -/
def backL {p : Nat} (xs : List Int) (hd : Dig p xs) (hp : 0 < p) (k : Nat) : List (Nat × Low p) := (List.range k).map fun j => (xs.length - 1 - j, ⟨xs.getD (xs.length - 1 - j) 0, dig_at hd hp _⟩)
theorem backL_succ {p : Nat} (xs : List Int) (hd : Dig p xs) (hp : 0 < p) (k : Nat) : backL xs hd hp (k + 1) = backL xs hd hp k ++ [(xs.length - 1 - k, ⟨xs.getD (xs.length - 1 - k) 0, dig_at hd hp _⟩)] := by simp [backL, List.range_succ]
theorem backL_length {p : Nat} (xs : List Int) (hd : Dig p xs) (hp : 0 < p) (k : Nat) : (backL xs hd hp k).length = k := by simp [backL]
/-- What a round keeps: what lay below n₀, and the cell with the slice. -/
def KpB (n₀ Bs : Nat) (W W' : World) : Prop := Below n₀ W W' ∧ W'.cell? ⟨Bs, 0, none⟩ = W.cell? ⟨Bs, 0, none⟩
theorem kpB_t {n₀ Bs : Nat} {A B C : World} (h : KpB n₀ Bs A B) (k : KpB n₀ Bs B C) : KpB n₀ Bs A C := ⟨h.1.trans k.1, k.2.trans h.2⟩
theorem kpB_b {n₀ Bs : Nat} {w : World} (hn : n₀ ≤ w.heap.size) (hB : Bs < w.heap.size) (W : World) (l : Nat) (o o' : Obj) (hl : w.heap.size ≤ l) (h : W.heap[l]? = some o) (h1 : o.isCells = false) (h2 : o.isWalk = false) : KpB n₀ Bs W (W.putObj l o') :=
  ⟨belowK_b hn W l o o' hl h h1 h2, (belowK_b (Nat.le_refl w.heap.size) W l o o' hl h h1 h2).cell (p := ⟨Bs, 0, none⟩) hB⟩
set_option maxRecDepth 100000 in
set_option maxHeartbeats 2000000 in
theorem back1_in {p : Nat} (F : Fence) (n : Nat) (h7 : F.fn 87) (hro : F.round = none) (hn : 1 ≤ n) (l Bs n₀ : Nat) (A : Option Addr) (c : Nat) (xs : List Int) (hd : Dig p xs) (hp : 0 < p) (hreach : xs.length ≤ 1000000) (J Jx : List (Nat × Low p) → World → Prop)
    (hY : ∀ pre x W, J pre W → pre.length < xs.length → YieldAt F (n - 1) Tryd.prog l #[.int .i64 (x.1 : Int), .int .u32 x.2.1] W fun e W' =>
      (e = .returned (.bool true) ∧ J (pre ++ [x]) W' ∧ KpB n₀ Bs W W') ∨ (e = .returned (.bool false) ∧ Jx (pre ++ [x]) W'))
    (W : World) (hBs : W.cell? ⟨Bs, 0, none⟩ = some (.slice A xs.length c)) (hc : KL .u32 W n₀ A xs) (h0 : J [] W) :
    CallsIn F n Tryd.prog 87 #[.func (.yield l) #[] #[], .pointer (some ⟨Bs, 0, none⟩)] W fun e W' => (∃ v, e = .returned v) ∧
      ((∃ ys, ys = backL xs hd hp xs.length ∧ J ys W') ∨ (∃ pre, (∃ k, k ≤ xs.length ∧ pre = backL xs hd hp k) ∧ Jx pre W')) := by
  refine callsIn_of_wp Tryd.func87 rfl h7 ?_ hro
  simp only [Tryd.ntmps87, List.size_toArray, List.length_cons, List.length_nil, Nat.reduceAdd, Nat.reduceSub, Array.replicate_succ, Array.replicate_zero, List.push_toArray, List.append_toArray, List.nil_append, List.cons_append]
  gi_wp2
  gi_loopw [3] (fun i wr => ∃ k : Nat, k ≤ xs.length ∧ (k = xs.length ∧ i = .int .i64 (-1) ∨ ∃ i' : Nat, i' + k + 1 = xs.length ∧ i = .int .i64 i') ∧ J (backL xs hd hp k) wr ∧ Below n₀ W wr ∧ wr.cell? ⟨Bs, 0, none⟩ = some (.slice A xs.length c))
    (fun i _ => (intOf i + 1).toNat)
  case atStart => exact ⟨0, Nat.zero_le _, by
    by_cases h : xs.length = 0
    · exact .inl ⟨h.symm, by rw [h]; rfl⟩
    · exact .inr ⟨xs.length - 1, by omega, by rw [show (xs.length : Int) - 1 = ((xs.length - 1 : Nat) : Int) by omega]⟩, h0, Below.refl _ _, hBs⟩
  case round =>
    obtain ⟨k, hk, hi, hJs, hnx, hbs⟩ := hrel
    rcases hi with ⟨rfl, rfl⟩ | ⟨i, hik, rfl⟩
    · gi_wp2
      go_end0
      exact ⟨⟨_, rfl⟩, .inl ⟨_, rfl, hJs⟩⟩
    · obtain ⟨ad, rfl, hab, hcc⟩ := hc.below hnx (by omega)
      have hcx := hcc i (by omega)
      have e1 : xs.length - 1 - k = i := by omega
      have e2 := backL_succ xs hd hp k
      rw [e1] at e2
      obtain ⟨v, hv⟩ : ∃ v : Low p, (⟨xs.getD i 0, dig_at hd hp _⟩ : Low p) = v := ⟨_, rfl⟩
      rw [hv] at e2
      have hcv : xs.getD i 0 = v.1 := by rw [← hv]
      rw [hcv] at hcx
      have E2 := Lib.hid e2
      obtain ⟨fn, tmps, assign, body, hy, hR⟩ := hY _ (i, v) wr hJs (by rw [backL_length]; omega)
      dsimp only at hy
      have i1 : (0 : Int) ≤ (i : Int) := by omega
      have i2 : (i : Int) < (xs.length : Int) := by omega
      clear e1 e2 hv hcv hcc hc
      gi_wp2
      refine hR.mono ?_
      rintro e W3 (⟨rfl, hJ3, hk3⟩ | ⟨rfl, hJx3⟩)
      · have HBS := Lib.hid (hk3.2.trans hbs)
        gi_wp2
        go_roundw
        case rel => exact ⟨k + 1, by omega, by
          by_cases h : i = 0
          · exact .inl ⟨by omega, by rw [h]; rfl⟩
          · exact .inr ⟨i - 1, by omega, by rw [show (i : Int) - 1 = ((i - 1 : Nat) : Int) by omega]⟩, by rw [E2.out]; exact hJ3, hnx.trans hk3.1, HBS.out⟩
        case measure => simp [intOf]
      · gi_wp2
        refine bodyPost_ret (results_none rfl _ _ _) rfl ?_
        exact ⟨⟨_, rfl⟩, .inr ⟨_, ⟨k + 1, by omega, E2.out.symm⟩, hJx3⟩⟩
set_option maxHeartbeats 1000000 in
theorem backward_any (A : Option Addr) (len cap : Nat) (w : World) :
    Calls Tryd.prog 59 #[.slice A len cap] w fun e w' => e = .returned (.func (.func 87) #[] #[.pointer (some ⟨w.heap.size, 0, none⟩)]) ∧ w' = w.alloc (.cells #[.slice A len cap] 23) := by
  go_enter Tryd.func59, Tryd.ntmps59
  go_wp2
  go_ret
  exact ⟨rfl, rfl⟩
theorem back_stops {p : Nat} (F : Fence) (n : Nat) (h7 : F.fn 87) (hro : F.round = none) (hn : 1 ≤ n) (Bs n₀ : Nat) (A : Option Addr) (c : Nat) (xs : List Int) (hd : Dig p xs) (hp : 0 < p) (hreach : xs.length ≤ 1000000) (w : World) (hBs : Bs < w.heap.size) (hn₀ : n₀ ≤ w.heap.size)
    (hc : w.cell? ⟨Bs, 0, none⟩ = some (.slice A xs.length c)) (hk : KL .u32 w n₀ A xs) :
    SeqStopsK F n Tryd.prog 87 #[.pointer (some ⟨Bs, 0, none⟩)] (fun x : Nat × Low p => #[Value.int .i64 (x.1 : Int), Value.int .u32 x.2.1]) (KpB n₀ Bs) (fun ys => ys = backL xs hd hp xs.length) (fun pre => ∃ k, k ≤ xs.length ∧ pre = backL xs hd hp k) xs.length w := fun l J Jx W hW _ _ hY h0 =>
  back1_in F n h7 hro hn l Bs n₀ A c xs hd hp hreach J Jx hY W ((hW.cell (p := ⟨Bs, 0, none⟩) hBs).trans hc) (hk.below (hW.mono hn₀)) h0
/-- Horner's way from the top. -/
def horL {p : Nat} (a : Nat) (pre : List (Nat × Low p)) : Int := pre.foldl (fun s x => ((s * a) % p + x.2.1) % p) 0
theorem horL_snoc {p : Nat} (a : Nat) (pre : List (Nat × Low p)) (x : Nat × Low p) : horL a (pre ++ [x]) = ((horL a pre * a) % p + x.2.1) % p := by simp [horL]
theorem horL_bd {p : Nat} (hp : 0 < p) (a : Nat) (pre : List (Nat × Low p)) : 0 ≤ horL a pre ∧ horL a pre < p := by
  rcases List.eq_nil_or_concat pre with rfl | ⟨ini, x, rfl⟩
  · simp [horL]; omega
  · rw [List.concat_eq_append, horL_snoc]; exact ⟨Int.emod_nonneg _ (by omega), Int.emod_lt_of_pos _ (by omega)⟩
theorem hor_mod (v a c p : Int) : (v % p * a % p + c) % p = (c + a * v) % p := by
  rw [Int.emod_add_emod]
  have h := Int.emod_add_mul_ediv v p
  have e : c + a * v = v % p * a + c + p * (a * (v / p)) := by
    conv => lhs; rw [← h]
    rw [Int.mul_add, Int.mul_left_comm, Int.mul_comm a (v % p)]
    omega
  rw [e, Int.add_mul_emod_self_left]
theorem horL_val {p : Nat} (a : Nat) (xs : List Int) (hd : Dig p xs) (hp : 0 < p) : ∀ k, k ≤ xs.length → horL a (backL xs hd hp k) = valZ (xs.drop (xs.length - k)) a % p
  | 0, _ => by simp [backL, horL, valZ]
  | k + 1, hk => by
    rw [backL_succ, horL_snoc, horL_val a xs hd hp k (by omega)]
    have e : xs.drop (xs.length - (k + 1)) = xs.getD (xs.length - 1 - k) 0 :: xs.drop (xs.length - k) := by
      rw [List.drop_eq_getElem_cons (by omega), show xs.length - (k + 1) + 1 = xs.length - k by omega, getD_of_lt (show xs.length - 1 - k < xs.length by omega)]
      congr 2
      omega
    rw [e]
    show (_ % _ * _ % _ + xs.getD (xs.length - 1 - k) 0) % _ = (xs.getD (xs.length - 1 - k) 0 + a * valZ _ _) % _
    exact hor_mod _ _ _ _
set_option maxRecDepth 100000 in
set_option maxHeartbeats 4000000 in
theorem value_any (p a : Nat) (A : Option Addr) (xs : List Int) (c : Nat) (w : World) (h : KL .u32 w w.heap.size A xs) (hp : p ≤ 2147483647) (hp0 : 0 < p) (hd : Dig p xs) (ha : a < p) (hl : xs.length ≤ 1000000) :
    Calls Tryd.prog 24 #[.agg #[.int .u32 (p : Int), .slice A xs.length c], .int .u32 (a : Int)] w fun e w' => e = .returned (.int .u32 (valZ xs a % p)) ∧ Below w.heap.size w w' := by
  refine (callsIn_wide (n := 5)).1 ?_
  have hro : Fence.wide.round = none := rfl
  refine callsIn_of_wp_marks Tryd.func24 rfl trivial ?_ hro
  simp only [Tryd.ntmps24, List.size_toArray, List.length_cons, List.length_nil, Nat.reduceAdd, Nat.reduceSub, Array.replicate_succ, Array.replicate_zero, List.push_toArray, List.append_toArray, List.nil_append, List.cons_append]
  gi_wp2_with (refine ⟨trivial, ?_⟩; gi_at_call 59; refine (callsIn_wide.2 (backward_any _ _ _ _)).mono ?_; rintro e w' ⟨rfl, rfl⟩)
  have HE : Hid (∃ W0 : World, (((w.alloc (.cells #[.int .u32 (p : Int), .slice A xs.length c] 25)).alloc (.cells #[.int .u32 (a : Int)] 22)).alloc (.cells #[.int .u32 0] 22)).alloc (.cells #[.slice A xs.length c] 23) = W0 ∧ (W0.cell? ⟨w.heap.size, 0, none⟩ = some (.int .u32 (p : Int)) ∧ W0.cell? ⟨w.heap.size + 1, 0, none⟩ = some (.int .u32 (a : Int)) ∧ W0.cell? ⟨w.heap.size + 1 + 1, 0, none⟩ = some (.int .u32 0) ∧ W0.frozen? ⟨w.heap.size + 1 + 1, 0, none⟩ = false) ∧ W0.cell? ⟨w.heap.size + 1 + 1 + 1, 0, none⟩ = some (.slice A xs.length c) ∧ W0.heap.size = w.heap.size + 1 + 1 + 1 + 1 ∧ Below w.heap.size w W0) := Lib.hid (by
    refine ⟨_, rfl, ⟨by go_cell, by go_cell, by go_cell, by go_cell⟩, by go_cell, by simp, by go_grown⟩)
  obtain ⟨W0, hW0, ⟨c0, c1, c2, f2⟩, c3, hs0, hb0⟩ := HE.out
  rw [hW0]
  clear hW0 HE
  have H : KL .u32 W0 w.heap.size A xs := h.below hb0
  have hmx : Tryd.prog.follows .mixedOrders = true := by kernel_rfl
  refine wpIn_rangeFunc_ownG hro (by omega) (gf := 87) (lb := #[.pointer (some ⟨w.heap.size + 1 + 1 + 1, 0, none⟩)]) rfl trivial (enters_of Tryd.func87 (by kernel_rfl) rfl)
    (back_stops Fence.wide (5 - 1) trivial hro (by omega) (w.heap.size + 1 + 1 + 1) w.heap.size A c xs hd hp0 hl W0 (by omega) (by omega) c3 H) kpB_t (kpB_b (by omega) (by omega)) (Below.refl _ _) (fun _ => rfl)
    (fun pre W => (W.cell? ⟨w.heap.size, 0, none⟩ = some (.int .u32 (p : Int)) ∧ W.cell? ⟨w.heap.size + 1, 0, none⟩ = some (.int .u32 (a : Int)) ∧ W.cell? ⟨w.heap.size + 1 + 1, 0, none⟩ = some (.int .u32 (horL a pre)) ∧ W.frozen? ⟨w.heap.size + 1 + 1, 0, none⟩ = false) ∧ Below w.heap.size w W)
    (fun _ _ _ => False)
    (OwnFrom.and (Own.from (fun s A B row hs hg hr => ⟨cell_kept hs.1 hg hr, cell_kept hs.2.1 hg hr, cell_kept hs.2.2.1 hg hr, (frozen_kept hs.2.2.1 hg hr).trans hs.2.2.2⟩) _) (ownFrom_below (Nat.le_refl _) (by omega)))
    (fun _ _ _ _ _ hs _ _ => hs)
    ⟨⟨c0, c1, c2, f2⟩, hb0⟩
    (fun x => { tmps := #[.agg #[.int .u32 (p : Int), .slice A xs.length c], .int .u32 (a : Int), .pointer (some ⟨w.heap.size, 0, none⟩), .pointer (some ⟨w.heap.size + 1, 0, none⟩), .int .u32 0, .pointer (some ⟨w.heap.size + 1 + 1, 0, none⟩), undef, .int .u32 x.2.1, .pointer (some ⟨w.heap.size, 1, none⟩), .slice A xs.length c, .func (.func 87) #[] #[.pointer (some ⟨w.heap.size + 1 + 1 + 1, 0, none⟩)], .int .i64 (x.1 : Int), .int .u32 x.2.1, undef, undef, undef, undef, undef, undef, undef, undef, undef, undef], defers := [] }) ?assign ?body ?done ?stop
  case assign =>
    intro l x W K hK
    gi_wp2
    exact hK
  case body =>
    rintro l pre x W ⟨⟨b0, b1, b2, g2⟩, hB⟩ _
    have hbd := horL_bd hp0 a pre
    have hsn := Lib.hid (horL_snoc a pre x)
    obtain ⟨s, hs⟩ : ∃ s : Nat, horL a pre = s := ⟨(horL a pre).toNat, by omega⟩
    obtain ⟨i, ⟨cv, hcv⟩⟩ := x
    obtain ⟨y, rfl⟩ : ∃ y : Nat, cv = y := ⟨cv.toNat, by omega⟩
    rw [hs] at b2 hbd
    obtain ⟨m, hm⟩ : ∃ m, (s * a) % p = m := ⟨_, rfl⟩
    have hmp : m < p := by rw [← hm]; exact Nat.mod_lt _ hp0
    have HM : Hid (∀ W : World, Calls Tryd.prog 61 #[.int .u32 (p : Int), .int .u32 (s : Int), .int .u32 (a : Int)] W fun e w' => e = .returned (.int .u32 (m : Int)) ∧ W = w') := Lib.hid fun W => by rw [← hm]; exact mmul_any p s a W hp hp0 (by omega) ha
    obtain ⟨z, hz⟩ : ∃ z, (m + y) % p = z := ⟨_, rfl⟩
    have HA : Hid (∀ W : World, Calls Tryd.prog 60 #[.int .u32 (p : Int), .int .u32 (m : Int), .int .u32 (y : Int)] W fun e w' => e = .returned (.int .u32 (z : Int)) ∧ W = w') := Lib.hid fun W => by rw [← hz]; exact madd_any p m y W hp hmp (by omega)
    have HZ : Hid (horL a (pre ++ [(i, ⟨(y : Int), hcv⟩)]) = (z : Int)) := Lib.hid (by rw [hsn.out, hs, ← hz, ← hm]; push_cast; rfl)
    clear hsn hs hm hz
    gi_wp2
    have HX : Hid ((fun W : World => W.cell? ⟨w.heap.size, 0, none⟩ = some (.int .u32 (p : Int)) ∧ W.cell? ⟨w.heap.size + 1, 0, none⟩ = some (.int .u32 (a : Int)) ∧ W.cell? ⟨w.heap.size + 1 + 1, 0, none⟩ = some (.int .u32 (s : Int))) W.drew) := Lib.hid ⟨b0, b1, b2⟩
    refine wpIn_region_tail (TwoS 9 9 (fun W : World => W.cell? ⟨w.heap.size, 0, none⟩ = some (.int .u32 (p : Int)) ∧ W.cell? ⟨w.heap.size + 1, 0, none⟩ = some (.int .u32 (a : Int)) ∧ W.cell? ⟨w.heap.size + 1 + 1, 0, none⟩ = some (.int .u32 (s : Int))) (fun W : World => W.cell? ⟨w.heap.size, 0, none⟩ = some (.int .u32 (p : Int)) ∧ W.cell? ⟨w.heap.size + 1, 0, none⟩ = some (.int .u32 (a : Int)) ∧ W.cell? ⟨w.heap.size + 1 + 1, 0, none⟩ = some (.int .u32 (s : Int)))) hmx (by kernel_rfl) ⟨fun _ => HX.out, fun _ => HX.out⟩ (fun hT => ?_)
    refine wpAnyT_take _ [9] (i := 0) (oi := _) (v := ?_) (TwoS.iff (by decide) (by decide)) TwoS.second rfl (by kernel_rfl) (by kernel_rfl) (by kernel_rfl) (by kernel_rfl) (by kernel_rfl) (fun _ _ _ h => h) (by assumption) (Or.inl ⟨by rfl, ?_⟩) (fun hT => ?_)
    rotate_left 1
    · intro w hSw
      (try dsimp only at hSw)
      first | (go_simp; done) | (go_simp; with_reducible rfl)
    (try simp only [Act.put, List.setIfInBounds_toArray])
    refine wpAnyT_take _ [9] (i := 1) (oi := _) (v := ?_) (TwoS.iff (by decide) (by decide)) TwoS.second rfl (by kernel_rfl) (by kernel_rfl) (by kernel_rfl) (by kernel_rfl) (by kernel_rfl) (fun _ _ _ h => h) (by assumption) (Or.inl ⟨by rfl, ?_⟩) (fun hT => ?_)
    rotate_left 1
    · intro w hSw
      (try dsimp only at hSw)
      first | (go_simp; done) | (go_simp; with_reducible rfl)
    (try simp only [Act.put])
    refine wpAnyT_take _ [9] (i := 2) (oi := _) (v := ?_) (TwoS.iff (by decide) (by decide)) TwoS.second rfl (by kernel_rfl) (by kernel_rfl) (by kernel_rfl) (by kernel_rfl) (by kernel_rfl) (fun _ _ _ h => h) (by assumption) (Or.inl ⟨by rfl, ?_⟩) (fun hT => ?_)
    rotate_left 1
    · intro w hSw
      (try dsimp only at hSw)
      first | (go_simp; done) | (go_simp; with_reducible rfl)
    (try simp only [Act.put])
    refine wpAnyT_take _ [9] (i := 3) (oi := _) (v := ?_) (TwoS.iff (by decide) (by decide)) TwoS.second rfl (by kernel_rfl) (by kernel_rfl) (by kernel_rfl) (by kernel_rfl) (by kernel_rfl) (fun _ _ _ h => h) (by assumption) (Or.inl ⟨by rfl, ?_⟩) (fun hT => ?_)
    rotate_left 1
    · intro w hSw
      (try dsimp only at hSw)
      first | (go_simp; done) | (go_simp; with_reducible rfl)
    (try simp only [Act.put])
    refine wpAnyT_take _ [9] (i := 4) (oi := _) (v := ?_) (TwoS.iff (by decide) (by decide)) TwoS.second rfl (by kernel_rfl) (by kernel_rfl) (by kernel_rfl) (by kernel_rfl) (by kernel_rfl) (fun _ _ _ h => h) (by assumption) (Or.inl ⟨by rfl, ?_⟩) (fun hT => ?_)
    rotate_left 1
    · intro w hSw
      (try dsimp only at hSw)
      first | (go_simp; done) | (go_simp; with_reducible rfl)
    (try simp only [Act.put])
    refine wpAnyT_take _ [9] (i := 5) (oi := _) (v := ?_) (TwoS.iff (by decide) (by decide)) TwoS.second rfl (by kernel_rfl) (by kernel_rfl) (by kernel_rfl) (by kernel_rfl) (by kernel_rfl) (fun _ _ _ h => h) (by assumption) (Or.inl ⟨by rfl, ?_⟩) (fun hT => ?_)
    rotate_left 1
    · intro w hSw
      (try dsimp only at hSw)
      first | (go_simp; done) | (go_simp; with_reducible rfl)
    (try simp only [Act.put])
    refine wpAnyT_take _ [9] (i := 7) (oi := _) (v := ?_) (TwoS.iff (by decide) (by decide)) TwoS.second rfl (by kernel_rfl) (by kernel_rfl) (by kernel_rfl) (by kernel_rfl) (by kernel_rfl) (fun _ _ _ h => h) (by assumption) (Or.inl ⟨by rfl, ?_⟩) (fun hT => ?_)
    rotate_left 1
    · intro w hSw
      (try dsimp only at hSw)
      first | (go_simp; done) | (go_simp; with_reducible rfl)
    (try simp only [Act.put])
    refine wpAnyT_one (i := 6) (by kernel_rfl) (oi := _) rfl (fun K hK => ?_)
    (try dsimp only [List.getElem_toArray, List.getElem_cons_succ, List.getElem_cons_zero])
    go_simp
    go_at_call 61
    (with_reducible refine (HM.out _).mono ?_)
    rintro e w' ⟨rfl, rfl⟩
    go_wp2_with (fail)
    refine hK.out _ _ ⟨fun _ => HX.out, fun _ => HX.out⟩ (fun hT => ?_)
    clear hK K
    (try simp only [Act.put, List.setIfInBounds_toArray, List.set_cons_zero, List.set_cons_succ])
    refine wpAnyT_one (i := 8) (by kernel_rfl) (oi := _) rfl (fun K hK => ?_)
    (try dsimp only [List.getElem_toArray, List.getElem_cons_succ, List.getElem_cons_zero])
    go_simp
    go_at_call 60
    (with_reducible refine (HA.out _).mono ?_)
    rintro e w' ⟨rfl, rfl⟩
    go_wp2_with (fail)
    refine hK.out _ _ ⟨fun _ => HX.out, fun _ => HX.out⟩ (fun hT => ?_)
    clear hK K
    (try simp only [Act.put, List.setIfInBounds_toArray, List.set_cons_zero, List.set_cons_succ])
    refine wpAnyT_one (i := 9) (by kernel_rfl) (oi := _) rfl (fun K hK => ?_)
    (try dsimp only [List.getElem_toArray, List.getElem_cons_succ, List.getElem_cons_zero])
    go_simp
    refine hK.out _ _ ⟨fun h => absurd h (by decide), fun h => absurd h (by decide)⟩ (fun hT => ?_)
    clear hK K
    (try simp only [Act.put, List.setIfInBounds_toArray, List.set_cons_zero, List.set_cons_succ])
    refine wpAnyT_done (by kernel_rfl) ?_ _
    exact ⟨((KeepsOthers.setCell _ _ _).trans (KeepsOthers.drew _)).from _, ⟨((Below.refl w.heap.size W).setCell (p := ⟨w.heap.size + 1 + 1, 0, none⟩) (by show w.heap.size ≤ w.heap.size + 1 + 1; omega) _).drew, World.cell?_setCell_far _ _ _ _ (by show w.heap.size + 1 + 1 ≠ w.heap.size + 1 + 1 + 1; omega)⟩,
      ⟨(World.cell?_setCell_far _ _ _ _ (by show w.heap.size + 1 + 1 ≠ w.heap.size; omega)).trans b0, (World.cell?_setCell_far _ _ _ _ (by show w.heap.size + 1 + 1 ≠ w.heap.size + 1; omega)).trans b1, by rw [HZ.out]; exact World.cell?_setCell_same _ _ _ b2, by rw [frozen_drew_own, World.frozen?_setCell]; exact g2⟩, (hB.setCell (p := ⟨w.heap.size + 1 + 1, 0, none⟩) (by show w.heap.size ≤ w.heap.size + 1 + 1; omega) _).drew⟩
  case done =>
    rintro D ys W hD rfl ⟨⟨_, _, b2, _⟩, hB⟩ hK
    have hv := horL_val a xs hd hp0 xs.length (Nat.le_refl _)
    rw [Nat.sub_self, List.drop_zero] at hv
    rw [hv] at b2
    gi_wp2
    refine ⟨by simp, .inl ⟨_, _, rfl, run_takeDeferred hK, ?_⟩⟩
    exact ⟨_, results_tmp rfl _ _ _, rfl, hB.trans (belowK_b (w := w) (Nat.le_refl _) W D _ _ (by omega) hK rfl rfl)⟩
  case stop =>
    rintro D c pre W _ _ h _
    exact h.elim
end Go.Proofs.YtlndchmpnnlacaaDoor

namespace Go.Proofs.YtlndchmpnnlacaaDoor
open Go.RowKit
/-- A box of a polynomial over p, that may be written. -/
def PBox (W : World) (b p : Nat) (v : Value) : Prop := (W.cell? ⟨b, 0, none⟩ = some (.int .u32 (p : Int)) ∧ W.cell? ⟨b, 1, none⟩ = some v) ∧ W.frozen? ⟨b, 0, none⟩ = false ∧ W.frozen? ⟨b, 1, none⟩ = false
def Room2 (W : World) (b : Nat) : Prop := (∃ u v, W.cell? ⟨b, 0, none⟩ = some u ∧ W.cell? ⟨b, 1, none⟩ = some v) ∧ W.frozen? ⟨b, 0, none⟩ = false ∧ W.frozen? ⟨b, 1, none⟩ = false
theorem PBox.up {W W' : World} {b p B : Nat} {v : Value} (h : PBox W b p v) (hb : Below B W W') (hB : b < B) : PBox W' b p v :=
  ⟨⟨(hb.cell (p := ⟨b, 0, none⟩) hB).trans h.1.1, (hb.cell (p := ⟨b, 1, none⟩) hB).trans h.1.2⟩, (hb.frozen (p := ⟨b, 0, none⟩) hB).trans h.2.1, (hb.frozen (p := ⟨b, 1, none⟩) hB).trans h.2.2⟩
theorem Room2.up {W W' : World} {b B : Nat} (h : Room2 W b) (hb : Below B W W') (hB : b < B) : Room2 W' b := by
  obtain ⟨⟨u, v, h1, h2⟩, h3, h4⟩ := h
  exact ⟨⟨u, v, (hb.cell (p := ⟨b, 0, none⟩) hB).trans h1, (hb.cell (p := ⟨b, 1, none⟩) hB).trans h2⟩, (hb.frozen (p := ⟨b, 0, none⟩) hB).trans h3, (hb.frozen (p := ⟨b, 1, none⟩) hB).trans h4⟩
theorem PBox.room {W : World} {b p : Nat} {v : Value} (h : PBox W b p v) : Room2 W b := ⟨⟨_, _, h.1⟩, h.2⟩
/-- The two cells, written anew. -/
@[reducible] def put2 (W : World) (b p : Nat) (v : Value) : World := (W.setCell ⟨b, 0, none⟩ (.int .u32 (p : Int))).setCell ⟨b, 1, none⟩ v
theorem Room2.put {W : World} {b p : Nat} {v : Value} (h : Room2 W b) : PBox (put2 W b p v) b p v := by
  obtain ⟨⟨u0, u1, c0, c1⟩, f0, f1⟩ := h
  unfold put2
  refine ⟨⟨?_, ?_⟩, ?_, ?_⟩ <;> simp [*, World.cell?_setCell_other, World.cell?_setCell_same']
theorem put2_far {W : World} {b p : Nat} {v : Value} {q : Addr} (h : b ≠ q.block) : (put2 W b p v).cell? q = W.cell? q := by
  unfold put2
  rw [World.cell?_setCell_far _ _ _ _ h, World.cell?_setCell_far _ _ _ _ h]
theorem put2_frozen {W : World} {b p : Nat} {v : Value} {q : Addr} : (put2 W b p v).frozen? q = W.frozen? q := by simp [put2]
theorem PBox.put_other {W : World} {b p b' p' : Nat} {v v' : Value} (h : PBox W b p v) (hn : b' ≠ b) : PBox (put2 W b' p' v') b p v :=
  ⟨⟨(put2_far (q := ⟨b, 0, none⟩) hn).trans h.1.1, (put2_far (q := ⟨b, 1, none⟩) hn).trans h.1.2⟩, put2_frozen.trans h.2.1, put2_frozen.trans h.2.2⟩
theorem Room2.put_other {W : World} {b b' p' : Nat} {v' : Value} (h : Room2 W b) (hn : b' ≠ b) : Room2 (put2 W b' p' v') b := by
  obtain ⟨⟨u, v, h1, h1'⟩, h2, h3⟩ := h
  exact ⟨⟨u, v, (put2_far (q := ⟨b, 0, none⟩) hn).trans h1, (put2_far (q := ⟨b, 1, none⟩) hn).trans h1'⟩, put2_frozen.trans h2, put2_frozen.trans h3⟩
theorem put2_below {w W : World} {B b p : Nat} {v : Value} (h : Below B w W) (hb : B ≤ b) : Below B w (put2 W b p v) := by
  unfold put2
  exact (h.setCell hb _).setCell hb _
theorem put2_size (W : World) (b p : Nat) (v : Value) : (put2 W b p v).heap.size = W.heap.size := by simp [put2, World.setCell]
theorem KO.put2 {k : IntKind} {W : World} {bs : List Nat} {A : Option Addr} {xs : List Int} {b p : Nat} {v : Value} (h : KO k W bs A xs) (hb : b ∈ bs) : KO k (put2 W b p v) bs A xs := by
  unfold Go.Proofs.YtlndchmpnnlacaaDoor.put2
  exact (h.setCell hb).setCell hb
/-- Where sum's loop stands. -/
def SumS (w : World) (p : Nat) (F G : List Int) (k : Nat) (W : World) : Prop :=
  ∃ O oc xs, xs = (if k = 0 then [] else if k = 1 then F else addP p F G) ∧ PBox W (w.heap.size + 1) p (.slice O xs.length oc) ∧ KO .u32 W [w.heap.size + 1] O xs ∧ xs.length ≤ oc ∧ KF .u32 W (w.heap.size + 1 + 1) W.heap.size O xs ∧ Room2 W w.heap.size ∧ w.heap.size + 1 + 1 ≤ W.heap.size ∧ Below w.heap.size w W
set_option maxHeartbeats 4000000 in
theorem sum_two (p : Nat) (ad : Addr) (A B : Option Addr) (F G : List Int) (c d : Nat) (AA : Nat → Option Addr) (FF : Nat → List Int) (cc : Nat → Nat) (w : World) (e0 : AA 0 = A ∧ FF 0 = F ∧ cc 0 = c) (e1 : AA 1 = B ∧ FF 1 = G ∧ cc 1 = d)
    (hab : ad.block < w.heap.size) (hcc : ∀ k, k < 2 → w.cell? (ad.add (k * 2)) = some (.int .u32 (p : Int)) ∧ w.cell? ⟨(ad.add (k * 2)).block, (ad.add (k * 2)).off + 1, none⟩ = some (.slice (AA k) (FF k).length (cc k)))
    (h : KL .u32 w w.heap.size A F) (h' : KL .u32 w w.heap.size B G) (hp : p ≤ 2147483647) (hp0 : 0 < p) (hF : Pol p F) (hG : Pol p G) (hFl : F.length ≤ 1000000000) (hGl : G.length ≤ 1000000000) :
    Calls Tryd.prog 78 #[.int .u32 (p : Int), .slice (some ad) 2 2] w fun e w' => MadeP p (addP p F G) w e w' := by
  have HCC := Lib.hid hcc
  have HF := Lib.hid hF
  have HG := Lib.hid hG
  have HK := Lib.hid h
  have HK' := Lib.hid h'
  have HE0 := Lib.hid e0
  have HE1 := Lib.hid e1
  clear hcc hF hG h h' e0 e1
  go_enter Tryd.func78, Tryd.ntmps78
  go_wp2
  go_loopg [12] 2 (fun g i wr => ∃ k : Nat, k + g = 2 ∧ i = .int .i64 k ∧ SumS w p F G k wr)
  case atStart =>
    refine ⟨0, rfl, rfl, none, 0, [], rfl, ⟨⟨by go_cell, by go_cell⟩, by go_cell, by go_cell⟩, fun h => by simp at h, by simp, fun h => by simp at h, ⟨⟨.int .u32 0, .slice none 0 0, by go_cell, by go_cell⟩, by go_cell, by go_cell⟩, by simp, by go_grown⟩
  case round =>
    obtain ⟨k, hkg, rfl, O, oc, xs, hxs, hB, hKO, hoc, hKF, hR, hsz, hbw⟩ := hrel
    have HB := Lib.hid hB
    have HKO := Lib.hid hKO
    have HKF := Lib.hid hKF
    have HR := Lib.hid hR
    have HBW := Lib.hid hbw
    have HXS := Lib.hid hxs
    have HOC := Lib.hid hoc
    obtain ⟨⟨o0, o1⟩, g0, g1⟩ := hB
    clear hKO hKF hR hbw hxs hoc
    cases gk with
    | zero =>
      have hge : ¬ (k : Int) < 2 := by omega
      have HX : Hid (xs = addP p F G) := Lib.hid (by rw [HXS.out, if_neg (by omega), if_neg (by omega)])
      obtain ⟨⟨r0, r1, r2, r3⟩, r4, r5⟩ := HR.out
      go_wp2
      have hX := HX.out
      subst hX
      obtain ⟨⟨q0, q1⟩, _⟩ := HR.out.put (p := p) (v := .slice O (addP p F G).length oc)
      refine bodyPost_ret (v := .agg #[.int .u32 (p : Int), .slice O (addP p F G).length oc]) (by simp [results, Tryd.results78, go_sem, q0, q1]) rfl ?_
      exact madeP_end (base := w.heap.size + 1 + 1) HBW.out (Nat.le_refl _) HKF.out (by omega) HOC.out
    | succ g =>
      have hlt : k < 2 := by omega
      have hlti : (k : Int) < 2 := by omega
      obtain ⟨c0, c1⟩ := HCC.out k hlt
      have c2 := (HBW.out.cell (p := ad.add (k * 2)) (by rw [block_of_add]; exact hab)).trans c0
      have c3 := (HBW.out.cell (p := ⟨(ad.add (k * 2)).block, (ad.add (k * 2)).off + 1, none⟩) (by show (ad.add (k * 2)).block < _; rw [block_of_add]; exact hab)).trans c1
      have hk01 : k = 0 ∨ k = 1 := by omega
      have HA : Hid (KL .u32 w w.heap.size (AA k) (FF k) ∧ Pol p (FF k) ∧ (FF k).length ≤ 1000000000 ∧ xs.length ≤ 1000000000 ∧ Pol p xs ∧ addP p xs (FF k) = (if k + 1 = 0 then [] else if k + 1 = 1 then F else addP p F G)) := Lib.hid (by
        have e := HXS.out
        rcases hk01 with rfl | rfl
        · rw [if_pos rfl] at e
          subst e
          rw [HE0.out.1, HE0.out.2.1]
          exact ⟨HK.out, HF.out, hFl, by simp, Pol.nil_ p, by rw [if_neg (by omega), if_pos rfl, nil_addP hp0 HF.out]⟩
        · rw [if_neg (by omega), if_pos rfl] at e
          subst e
          rw [HE1.out.1, HE1.out.2.1]
          exact ⟨HK'.out, HG.out, hGl, hFl, HF.out, by rw [if_neg (by omega), if_neg (by omega)]⟩)
      obtain ⟨Ak, hAk⟩ : ∃ Ak, AA k = Ak := ⟨_, rfl⟩
      obtain ⟨Fk, hFk⟩ : ∃ Fk, FF k = Fk := ⟨_, rfl⟩
      obtain ⟨ck, hck⟩ : ∃ ck, cc k = ck := ⟨_, rfl⟩
      rw [hAk, hFk, hck] at c3
      rw [hAk, hFk] at HA
      have HAD : Hid (∀ T : TypeId, Calls Tryd.prog 30 #[.agg #[.int .u32 (p : Int), .slice O xs.length oc], .agg #[.int .u32 (p : Int), .slice Ak Fk.length ck]] (wr.alloc (.cells #[.int .u32 (p : Int), .slice Ak Fk.length ck] T)) (PM p (addP p xs Fk) wr (wr.alloc (.cells #[.int .u32 (p : Int), .slice Ak Fk.length ck] T)))) := Lib.hid fun T => by
        obtain ⟨a1, a2, a3, a4, a5, a6⟩ := HA.out
        have hb : Below wr.heap.size wr (wr.alloc (.cells #[.int .u32 (p : Int), .slice Ak Fk.length ck] T)) := (Below.refl _ _).alloc (Nat.le_refl _) _
        exact (add_any p O Ak xs Fk oc ck _ ((HKO.out.below hb).kl) (((a1.below HBW.out).more HBW.out.size).up hb) hp hp0 a5.1 a2.1 (by omega) (by omega)).mono (pm_of hb)
      obtain ⟨ys, hys⟩ : ∃ ys, addP p xs Fk = ys := ⟨_, rfl⟩
      rw [hys] at HAD HA
      have n0 : ∀ ob : Obj, (wr.alloc ob).cell? ⟨w.heap.size + 1, 0, none⟩ = some (.int .u32 (p : Int)) := fun ob => (((Below.refl wr.heap.size wr).alloc (Nat.le_refl _) ob).cell (p := ⟨w.heap.size + 1, 0, none⟩) (by show w.heap.size + 1 < wr.heap.size; omega)).trans o0
      have n1 : ∀ ob : Obj, (wr.alloc ob).cell? ⟨w.heap.size + 1, 1, none⟩ = some (.slice O xs.length oc) := fun ob => (((Below.refl wr.heap.size wr).alloc (Nat.le_refl _) ob).cell (p := ⟨w.heap.size + 1, 1, none⟩) (by show w.heap.size + 1 < wr.heap.size; omega)).trans o1
      clear hAk hFk hck hys c0 c1 hk01
      go_wp2_with (go_at_call 30; (with_reducible refine (HAD.out _).mono ?_); rintro e w3 ⟨YA, yc, rfl, hY, hyc, hb3, hc3⟩; have HB3 := Lib.hid (HB.out.up hb3 (by omega)); obtain ⟨⟨s0, s1⟩, s2, s3⟩ := HB3.out; have HKY := Lib.hid hY; have HBL := Lib.hid hb3; have HYC := Lib.hid hyc; clear hY hb3 hyc hc3)
      go_roundg g
      case measure => omega
      case rel =>
        have hs3 := HBL.out.size
        refine ⟨k + 1, by omega, by go_num, YA, yc, ys, HA.out.2.2.2.2.2, HB3.out.room.put, (KO.of_kf HKY.out (fun b hb => by simp at hb; omega)).put2 (by simp), HYC.out, ?_, (HR.out.up HBL.out (by omega)).put_other (by omega), by rw [put2_size]; omega, put2_below (HBW.out.trans (HBL.out.mono HBW.out.size)) (by omega)⟩
        rw [put2_size]
        exact (HKY.out.keep (fun q h1 _ => put2_far (by omega))).less (by omega) (Nat.le_refl _)
end Go.Proofs.YtlndchmpnnlacaaDoor
