/- Contracts: what makes a list of two. -/
import Derived.Test.YtflobccekfgiaaaCmp
namespace Go.Proofs.Ytflobccekfgiaaa
open Go.RowKit

/-- A slice that was made: it reads as the ints zs; nothing that was there has turned. -/
def Made (zs : List Int) (w : World) (e : Ending) (w' : World) : Prop :=
  ∃ A c, e = .returned (.slice A zs.length c) ∧ IL w' w'.heap.size A zs ∧ zs.length ≤ c ∧ Below w.heap.size w w'

theorem IL.of_own {w : World} {base : Nat} {e : TypeId} {A : Option Addr} {n c : Nat} {zs : List Int} (h : w.ownsRow base e 1 (.slice A n c) n (zs.map (Value.int .i64))) : zs.length = n ∧ zs.length ≤ c ∧ IL w w.heap.size A zs := by
  have hl : zs.length = n := by have := h.1; simpa using this
  refine ⟨hl, ?_, fun hn => ?_⟩
  · rcases h.2 with ⟨hv, hn⟩ | ⟨g, cap, cur, hv, _, _, hnc, _⟩
    · omega
    · injection hv with _ _ h3
      omega
  · rcases h.2 with ⟨hv, h0⟩ | ⟨g, cap, cur, hv, _, hh, _⟩
    · omega
    · have hA : A = some ⟨g, 0, none⟩ := by injection hv
      subst hA
      refine ⟨_, rfl, (Array.getElem?_eq_some_iff.1 hh).1, fun k hk => ?_⟩
      have := h.cells (g := g) rfl k (.int .i64 (zs.getD k 0)) (by simp [List.getD_eq_getElem?_getD, hk])
      exact this

theorem made_of_own {w w' : World} {base : Nat} {e : TypeId} {A : Option Addr} {n c : Nat} {zs : List Int} (h : w'.ownsRow base e 1 (.slice A n c) n (zs.map (Value.int .i64))) (hb : Below w.heap.size w w') : Made zs w (.returned (.slice A n c)) w' := by
  obtain ⟨h1, h2, h3⟩ := IL.of_own h
  subst h1
  exact ⟨A, c, rfl, h3, h2, hb⟩

def zipL (f : Int → Int → Int) (xs ys : List Int) : List Int := (List.range xs.length).map fun k => f (xs.getD k 0) (ys.getD k 0)
theorem zipL_length (f : Int → Int → Int) (xs ys : List Int) : (zipL f xs ys).length = xs.length := by simp [zipL]
theorem zipL_getD {f : Int → Int → Int} {xs ys : List Int} {k : Nat} (h : k < xs.length) : (zipL f xs ys).getD k 0 = f (xs.getD k 0) (ys.getD k 0) := by
  simp only [zipL]
  rw [List.getD_eq_getElem?_getD, List.getElem?_map, List.getElem?_range h]
  rfl
/-- What stands there behind k rounds. -/
def zipK (f : Int → Int → Int) (xs ys : List Int) (k : Nat) : List Int := (List.range xs.length).map fun j => if j < k then f (xs.getD j 0) (ys.getD j 0) else 0
theorem zipK_all (f : Int → Int → Int) (xs ys : List Int) : zipK f xs ys xs.length = zipL f xs ys := by
  unfold zipK zipL
  apply List.map_congr_left
  intro j hj
  rw [if_pos (by simpa using hj)]
theorem zipK_zero (f : Int → Int → Int) (xs ys : List Int) : (zipK f xs ys 0).map (Value.int .i64) = List.replicate xs.length (Value.int .i64 0) := by
  unfold zipK
  rw [List.map_map]
  apply List.ext_getElem (by simp)
  intro i h1 h2
  simp
theorem zipK_step (f : Int → Int → Int) (xs ys : List Int) (k : Nat) (x y : Int) (hx : xs.getD k 0 = x) (hy : ys.getD k 0 = y) : (zipK f xs ys (k + 1)).map (Value.int .i64) = ((zipK f xs ys k).map (Value.int .i64)).set k (.int .i64 (f x y)) := by
  unfold zipK
  rw [List.map_map, List.map_map]
  apply List.ext_getElem (by simp)
  intro i h1 h2
  simp only [List.getElem_map, List.getElem_range, List.getElem_set, Function.comp]
  by_cases hik : k = i
  · subst hik
    simp only [if_pos (Nat.lt_succ_self k)]
    rw [hx, hy]; simp
  · rw [if_neg hik]
    have : (i < k + 1) ↔ (i < k) := by omega
    simp [this]

theorem int_info : (Try.prog.info? 3).map (fun i => (i.zero, i.size, i.bytes)) = some (some (.int .i64 0), 1, 8) := by kernel_rfl

set_option maxHeartbeats 400000 in
theorem pairs_Mul (f : Int → Int → Int) (m : Int) (A B : Option Addr) (xs ys : List Int) (c d : Nat) (w : World) (h : IL w w.heap.size A xs) (h' : IL w w.heap.size B ys) (hl : xs.length = ys.length) (hx : Lim m xs) (hy : Lim m ys)
    (hdo : ∀ (x y : Int) (W : World), 0 ≤ x → x ≤ m → 0 ≤ y → y ≤ m → Calls Try.prog 32 #[.int .i64 x, .int .i64 y] W fun e w' => e = .returned (.int .i64 (f x y)) ∧ W = w') :
    Calls Try.prog 31 #[.slice A xs.length c, .slice B ys.length d, .func (Fn.func 32) #[] #[]] w fun e w' => Made (zipL f xs ys) w e w' := by
  obtain ⟨i0, hi0, hz0, hz1, hz2⟩ := info_parts int_info
  have h6 := hx.1
  have H := Lib.hid h; clear h
  have H' := Lib.hid h'; clear h'
  have HL := Lib.hid hl; clear hl
  have HX := Lib.hid hx; clear hx
  have HY := Lib.hid hy; clear hy
  have HDO := Lib.hid hdo; clear hdo
  go_enter Try.func31, Try.ntmps31
  go_wp2_with (at_make; refine wpList_make_full _ rfl _ _ 22 rfl w.heap.size 3 i0 (.int .i64 0) 1 Try.underlying22 hi0 hz0 hz1 _ _ _ _ xs.length rfl rfl rfl rfl (by rw [hz2]; omega) (by unfold maxLen; omega) (Nat.le_refl _) ?_; intro w1 hown hg)
  have hb1 : Below w.heap.size w w1 := (Below.refl _ _).grown hg (Nat.le_refl _) (fun k hk => by cases hk)
  have hown1 : w1.ownsRow w.heap.size 3 1 (.slice (some ⟨w.heap.size, 0, none⟩) xs.length xs.length) xs.length ((zipK f xs ys 0).map (Value.int .i64)) := by
    rw [zipK_zero, ← toList_madeCells_one (.int .i64 0) xs.length]
    rw [Nat.mul_one] at hown
    exact hown
  have HO := Lib.hid hown1
  have HB := Lib.hid hb1
  clear hown hown1 hg hb1
  go_loopw [15] (fun i wr => ∃ k : Nat, k ≤ xs.length ∧ i = .int .i64 k ∧ wr.ownsRow w.heap.size 3 1 (.slice (some ⟨w.heap.size, 0, none⟩) xs.length xs.length) xs.length ((zipK f xs ys k).map (Value.int .i64)) ∧ Below w.heap.size w wr) (fun i _ => xs.length - (intOf i).toNat)
  case atStart => exact ⟨0, Nat.zero_le _, rfl, HO.out, HB.out⟩
  case round =>
    obtain ⟨k, hk, rfl, hown, hbw⟩ := hrel
    by_cases hlt : k < xs.length
    · have hlt' : k < ys.length := by have := HL.out; omega
      obtain ⟨ad, rfl, hab, hc⟩ := (H.out.below hbw) (by omega)
      obtain ⟨bd, rfl, hbb, hc'⟩ := (H'.out.below hbw) (by omega)
      have hcell := hc k hlt
      have hcell' := hc' k hlt'
      have hx1 := HX.out.2 k hlt
      have hy1 := HY.out.2 k hlt'
      obtain ⟨x, hx⟩ : ∃ x, xs.getD k 0 = x := ⟨_, rfl⟩
      obtain ⟨y, hy⟩ : ∃ y, ys.getD k 0 = y := ⟨_, rfl⟩
      rw [hx] at hcell hx1
      rw [hy] at hcell' hy1
      have hst := hown.stored k (.int .i64 (f x y))
      have hstep := zipK_step f xs ys k x y hx hy
      have hfz := hown.frozenAt k
      have hcu : ∃ u, wr.cell? ⟨w.heap.size, k, none⟩ = some u := by
        rw [hown.cellAt k (by omega)]
        exact ⟨_, List.getElem?_eq_getElem (by simp [zipK]; exact hlt)⟩
      obtain ⟨u, hcu⟩ := hcu
      have HC := Lib.hid (HDO.out x y wr hx1.1 hx1.2 hy1.1 hy1.2)
      have hnew : Below w.heap.size w (wr.setCell ⟨w.heap.size, k, none⟩ (.int .i64 (f x y))) := hbw.setCell (Nat.le_refl _) _
      have HN := Lib.hid hnew
      have hown' := hst.1
      rw [← hstep] at hown'
      have HO' := Lib.hid hown'
      clear hc hx hc' hy hst hstep hown hnew hown' hbw
      go_wp2_with (go_at_call 32; (with_reducible refine HC.out.mono ?_); rintro e w' ⟨rfl, rfl⟩)
      go_roundw
      case rel => exact ⟨k + 1, by omega, by go_num, HO'.out, HN.out⟩
      case measure => simp [intOf]; omega
    · have hkl : k = xs.length := by omega
      subst hkl
      rw [zipK_all] at hown
      have HO' := Lib.hid hown
      have HB' := Lib.hid hbw
      clear hown hbw
      go_wp2
      go_ret
      exact made_of_own HO'.out HB'.out
set_option maxHeartbeats 400000 in
theorem pairs_Div (f : Int → Int → Int) (m : Int) (A B : Option Addr) (xs ys : List Int) (c d : Nat) (w : World) (h : IL w w.heap.size A xs) (h' : IL w w.heap.size B ys) (hl : xs.length = ys.length) (hx : Lim m xs) (hy : Lim m ys)
    (hdo : ∀ (x y : Int) (W : World), 0 ≤ x → x ≤ m → 0 ≤ y → y ≤ m → Calls Try.prog 33 #[.int .i64 x, .int .i64 y] W fun e w' => e = .returned (.int .i64 (f x y)) ∧ W = w') :
    Calls Try.prog 31 #[.slice A xs.length c, .slice B ys.length d, .func (Fn.func 33) #[] #[]] w fun e w' => Made (zipL f xs ys) w e w' := by
  obtain ⟨i0, hi0, hz0, hz1, hz2⟩ := info_parts int_info
  have h6 := hx.1
  have H := Lib.hid h; clear h
  have H' := Lib.hid h'; clear h'
  have HL := Lib.hid hl; clear hl
  have HX := Lib.hid hx; clear hx
  have HY := Lib.hid hy; clear hy
  have HDO := Lib.hid hdo; clear hdo
  go_enter Try.func31, Try.ntmps31
  go_wp2_with (at_make; refine wpList_make_full _ rfl _ _ 22 rfl w.heap.size 3 i0 (.int .i64 0) 1 Try.underlying22 hi0 hz0 hz1 _ _ _ _ xs.length rfl rfl rfl rfl (by rw [hz2]; omega) (by unfold maxLen; omega) (Nat.le_refl _) ?_; intro w1 hown hg)
  have hb1 : Below w.heap.size w w1 := (Below.refl _ _).grown hg (Nat.le_refl _) (fun k hk => by cases hk)
  have hown1 : w1.ownsRow w.heap.size 3 1 (.slice (some ⟨w.heap.size, 0, none⟩) xs.length xs.length) xs.length ((zipK f xs ys 0).map (Value.int .i64)) := by
    rw [zipK_zero, ← toList_madeCells_one (.int .i64 0) xs.length]
    rw [Nat.mul_one] at hown
    exact hown
  have HO := Lib.hid hown1
  have HB := Lib.hid hb1
  clear hown hown1 hg hb1
  go_loopw [15] (fun i wr => ∃ k : Nat, k ≤ xs.length ∧ i = .int .i64 k ∧ wr.ownsRow w.heap.size 3 1 (.slice (some ⟨w.heap.size, 0, none⟩) xs.length xs.length) xs.length ((zipK f xs ys k).map (Value.int .i64)) ∧ Below w.heap.size w wr) (fun i _ => xs.length - (intOf i).toNat)
  case atStart => exact ⟨0, Nat.zero_le _, rfl, HO.out, HB.out⟩
  case round =>
    obtain ⟨k, hk, rfl, hown, hbw⟩ := hrel
    by_cases hlt : k < xs.length
    · have hlt' : k < ys.length := by have := HL.out; omega
      obtain ⟨ad, rfl, hab, hc⟩ := (H.out.below hbw) (by omega)
      obtain ⟨bd, rfl, hbb, hc'⟩ := (H'.out.below hbw) (by omega)
      have hcell := hc k hlt
      have hcell' := hc' k hlt'
      have hx1 := HX.out.2 k hlt
      have hy1 := HY.out.2 k hlt'
      obtain ⟨x, hx⟩ : ∃ x, xs.getD k 0 = x := ⟨_, rfl⟩
      obtain ⟨y, hy⟩ : ∃ y, ys.getD k 0 = y := ⟨_, rfl⟩
      rw [hx] at hcell hx1
      rw [hy] at hcell' hy1
      have hst := hown.stored k (.int .i64 (f x y))
      have hstep := zipK_step f xs ys k x y hx hy
      have hfz := hown.frozenAt k
      have hcu : ∃ u, wr.cell? ⟨w.heap.size, k, none⟩ = some u := by
        rw [hown.cellAt k (by omega)]
        exact ⟨_, List.getElem?_eq_getElem (by simp [zipK]; exact hlt)⟩
      obtain ⟨u, hcu⟩ := hcu
      have HC := Lib.hid (HDO.out x y wr hx1.1 hx1.2 hy1.1 hy1.2)
      have hnew : Below w.heap.size w (wr.setCell ⟨w.heap.size, k, none⟩ (.int .i64 (f x y))) := hbw.setCell (Nat.le_refl _) _
      have HN := Lib.hid hnew
      have hown' := hst.1
      rw [← hstep] at hown'
      have HO' := Lib.hid hown'
      clear hc hx hc' hy hst hstep hown hnew hown' hbw
      go_wp2_with (go_at_call 33; (with_reducible refine HC.out.mono ?_); rintro e w' ⟨rfl, rfl⟩)
      go_roundw
      case rel => exact ⟨k + 1, by omega, by go_num, HO'.out, HN.out⟩
      case measure => simp [intOf]; omega
    · have hkl : k = xs.length := by omega
      subst hkl
      rw [zipK_all] at hown
      have HO' := Lib.hid hown
      have HB' := Lib.hid hbw
      clear hown hbw
      go_wp2
      go_ret
      exact made_of_own HO'.out HB'.out
set_option maxHeartbeats 400000 in
theorem pairs_Lcm (f : Int → Int → Int) (m : Int) (A B : Option Addr) (xs ys : List Int) (c d : Nat) (w : World) (h : IL w w.heap.size A xs) (h' : IL w w.heap.size B ys) (hl : xs.length = ys.length) (hx : Lim m xs) (hy : Lim m ys)
    (hdo : ∀ (x y : Int) (W : World), 0 ≤ x → x ≤ m → 0 ≤ y → y ≤ m → Calls Try.prog 34 #[.int .i64 x, .int .i64 y] W fun e w' => e = .returned (.int .i64 (f x y)) ∧ W = w') :
    Calls Try.prog 31 #[.slice A xs.length c, .slice B ys.length d, .func (Fn.func 34) #[] #[]] w fun e w' => Made (zipL f xs ys) w e w' := by
  obtain ⟨i0, hi0, hz0, hz1, hz2⟩ := info_parts int_info
  have h6 := hx.1
  have H := Lib.hid h; clear h
  have H' := Lib.hid h'; clear h'
  have HL := Lib.hid hl; clear hl
  have HX := Lib.hid hx; clear hx
  have HY := Lib.hid hy; clear hy
  have HDO := Lib.hid hdo; clear hdo
  go_enter Try.func31, Try.ntmps31
  go_wp2_with (at_make; refine wpList_make_full _ rfl _ _ 22 rfl w.heap.size 3 i0 (.int .i64 0) 1 Try.underlying22 hi0 hz0 hz1 _ _ _ _ xs.length rfl rfl rfl rfl (by rw [hz2]; omega) (by unfold maxLen; omega) (Nat.le_refl _) ?_; intro w1 hown hg)
  have hb1 : Below w.heap.size w w1 := (Below.refl _ _).grown hg (Nat.le_refl _) (fun k hk => by cases hk)
  have hown1 : w1.ownsRow w.heap.size 3 1 (.slice (some ⟨w.heap.size, 0, none⟩) xs.length xs.length) xs.length ((zipK f xs ys 0).map (Value.int .i64)) := by
    rw [zipK_zero, ← toList_madeCells_one (.int .i64 0) xs.length]
    rw [Nat.mul_one] at hown
    exact hown
  have HO := Lib.hid hown1
  have HB := Lib.hid hb1
  clear hown hown1 hg hb1
  go_loopw [15] (fun i wr => ∃ k : Nat, k ≤ xs.length ∧ i = .int .i64 k ∧ wr.ownsRow w.heap.size 3 1 (.slice (some ⟨w.heap.size, 0, none⟩) xs.length xs.length) xs.length ((zipK f xs ys k).map (Value.int .i64)) ∧ Below w.heap.size w wr) (fun i _ => xs.length - (intOf i).toNat)
  case atStart => exact ⟨0, Nat.zero_le _, rfl, HO.out, HB.out⟩
  case round =>
    obtain ⟨k, hk, rfl, hown, hbw⟩ := hrel
    by_cases hlt : k < xs.length
    · have hlt' : k < ys.length := by have := HL.out; omega
      obtain ⟨ad, rfl, hab, hc⟩ := (H.out.below hbw) (by omega)
      obtain ⟨bd, rfl, hbb, hc'⟩ := (H'.out.below hbw) (by omega)
      have hcell := hc k hlt
      have hcell' := hc' k hlt'
      have hx1 := HX.out.2 k hlt
      have hy1 := HY.out.2 k hlt'
      obtain ⟨x, hx⟩ : ∃ x, xs.getD k 0 = x := ⟨_, rfl⟩
      obtain ⟨y, hy⟩ : ∃ y, ys.getD k 0 = y := ⟨_, rfl⟩
      rw [hx] at hcell hx1
      rw [hy] at hcell' hy1
      have hst := hown.stored k (.int .i64 (f x y))
      have hstep := zipK_step f xs ys k x y hx hy
      have hfz := hown.frozenAt k
      have hcu : ∃ u, wr.cell? ⟨w.heap.size, k, none⟩ = some u := by
        rw [hown.cellAt k (by omega)]
        exact ⟨_, List.getElem?_eq_getElem (by simp [zipK]; exact hlt)⟩
      obtain ⟨u, hcu⟩ := hcu
      have HC := Lib.hid (HDO.out x y wr hx1.1 hx1.2 hy1.1 hy1.2)
      have hnew : Below w.heap.size w (wr.setCell ⟨w.heap.size, k, none⟩ (.int .i64 (f x y))) := hbw.setCell (Nat.le_refl _) _
      have HN := Lib.hid hnew
      have hown' := hst.1
      rw [← hstep] at hown'
      have HO' := Lib.hid hown'
      clear hc hx hc' hy hst hstep hown hnew hown' hbw
      go_wp2_with (go_at_call 34; (with_reducible refine HC.out.mono ?_); rintro e w' ⟨rfl, rfl⟩)
      go_roundw
      case rel => exact ⟨k + 1, by omega, by go_num, HO'.out, HN.out⟩
      case measure => simp [intOf]; omega
    · have hkl : k = xs.length := by omega
      subst hkl
      rw [zipK_all] at hown
      have HO' := Lib.hid hown
      have HB' := Lib.hid hbw
      clear hown hbw
      go_wp2
      go_ret
      exact made_of_own HO'.out HB'.out
set_option maxHeartbeats 400000 in
theorem pairs_Gcd (f : Int → Int → Int) (m : Int) (A B : Option Addr) (xs ys : List Int) (c d : Nat) (w : World) (h : IL w w.heap.size A xs) (h' : IL w w.heap.size B ys) (hl : xs.length = ys.length) (hx : Lim m xs) (hy : Lim m ys)
    (hdo : ∀ (x y : Int) (W : World), 0 ≤ x → x ≤ m → 0 ≤ y → y ≤ m → Calls Try.prog 35 #[.int .i64 x, .int .i64 y] W fun e w' => e = .returned (.int .i64 (f x y)) ∧ W = w') :
    Calls Try.prog 31 #[.slice A xs.length c, .slice B ys.length d, .func (Fn.func 35) #[] #[]] w fun e w' => Made (zipL f xs ys) w e w' := by
  obtain ⟨i0, hi0, hz0, hz1, hz2⟩ := info_parts int_info
  have h6 := hx.1
  have H := Lib.hid h; clear h
  have H' := Lib.hid h'; clear h'
  have HL := Lib.hid hl; clear hl
  have HX := Lib.hid hx; clear hx
  have HY := Lib.hid hy; clear hy
  have HDO := Lib.hid hdo; clear hdo
  go_enter Try.func31, Try.ntmps31
  go_wp2_with (at_make; refine wpList_make_full _ rfl _ _ 22 rfl w.heap.size 3 i0 (.int .i64 0) 1 Try.underlying22 hi0 hz0 hz1 _ _ _ _ xs.length rfl rfl rfl rfl (by rw [hz2]; omega) (by unfold maxLen; omega) (Nat.le_refl _) ?_; intro w1 hown hg)
  have hb1 : Below w.heap.size w w1 := (Below.refl _ _).grown hg (Nat.le_refl _) (fun k hk => by cases hk)
  have hown1 : w1.ownsRow w.heap.size 3 1 (.slice (some ⟨w.heap.size, 0, none⟩) xs.length xs.length) xs.length ((zipK f xs ys 0).map (Value.int .i64)) := by
    rw [zipK_zero, ← toList_madeCells_one (.int .i64 0) xs.length]
    rw [Nat.mul_one] at hown
    exact hown
  have HO := Lib.hid hown1
  have HB := Lib.hid hb1
  clear hown hown1 hg hb1
  go_loopw [15] (fun i wr => ∃ k : Nat, k ≤ xs.length ∧ i = .int .i64 k ∧ wr.ownsRow w.heap.size 3 1 (.slice (some ⟨w.heap.size, 0, none⟩) xs.length xs.length) xs.length ((zipK f xs ys k).map (Value.int .i64)) ∧ Below w.heap.size w wr) (fun i _ => xs.length - (intOf i).toNat)
  case atStart => exact ⟨0, Nat.zero_le _, rfl, HO.out, HB.out⟩
  case round =>
    obtain ⟨k, hk, rfl, hown, hbw⟩ := hrel
    by_cases hlt : k < xs.length
    · have hlt' : k < ys.length := by have := HL.out; omega
      obtain ⟨ad, rfl, hab, hc⟩ := (H.out.below hbw) (by omega)
      obtain ⟨bd, rfl, hbb, hc'⟩ := (H'.out.below hbw) (by omega)
      have hcell := hc k hlt
      have hcell' := hc' k hlt'
      have hx1 := HX.out.2 k hlt
      have hy1 := HY.out.2 k hlt'
      obtain ⟨x, hx⟩ : ∃ x, xs.getD k 0 = x := ⟨_, rfl⟩
      obtain ⟨y, hy⟩ : ∃ y, ys.getD k 0 = y := ⟨_, rfl⟩
      rw [hx] at hcell hx1
      rw [hy] at hcell' hy1
      have hst := hown.stored k (.int .i64 (f x y))
      have hstep := zipK_step f xs ys k x y hx hy
      have hfz := hown.frozenAt k
      have hcu : ∃ u, wr.cell? ⟨w.heap.size, k, none⟩ = some u := by
        rw [hown.cellAt k (by omega)]
        exact ⟨_, List.getElem?_eq_getElem (by simp [zipK]; exact hlt)⟩
      obtain ⟨u, hcu⟩ := hcu
      have HC := Lib.hid (HDO.out x y wr hx1.1 hx1.2 hy1.1 hy1.2)
      have hnew : Below w.heap.size w (wr.setCell ⟨w.heap.size, k, none⟩ (.int .i64 (f x y))) := hbw.setCell (Nat.le_refl _) _
      have HN := Lib.hid hnew
      have hown' := hst.1
      rw [← hstep] at hown'
      have HO' := Lib.hid hown'
      clear hc hx hc' hy hst hstep hown hnew hown' hbw
      go_wp2_with (go_at_call 35; (with_reducible refine HC.out.mono ?_); rintro e w' ⟨rfl, rfl⟩)
      go_roundw
      case rel => exact ⟨k + 1, by omega, by go_num, HO'.out, HN.out⟩
      case measure => simp [intOf]; omega
    · have hkl : k = xs.length := by omega
      subst hkl
      rw [zipK_all] at hown
      have HO' := Lib.hid hown
      have HB' := Lib.hid hbw
      clear hown hbw
      go_wp2
      go_ret
      exact made_of_own HO'.out HB'.out

set_option maxHeartbeats 400000 in
theorem add_any (x y : Int) (w : World) (h1 : 0 ≤ x) (h2 : x ≤ 60) (h3 : 0 ≤ y) (h4 : y ≤ 60) : Calls Try.prog 32 #[.int .i64 x, .int .i64 y] w fun e w' => e = .returned (.int .i64 (x + y)) ∧ w = w' := by
  go_enter Try.func32, Try.ntmps32
  go_wp2
  go_ret
  exact ⟨rfl, rfl⟩
set_option maxHeartbeats 400000 in
theorem sub_any (x y : Int) (w : World) (h1 : 0 ≤ x) (h2 : x ≤ 60) (h3 : 0 ≤ y) (h4 : y ≤ 60) : Calls Try.prog 33 #[.int .i64 x, .int .i64 y] w fun e w' => e = .returned (.int .i64 (x - y)) ∧ w = w' := by
  go_enter Try.func33, Try.ntmps33
  go_wp2
  go_ret
  exact ⟨rfl, rfl⟩
def maxI (x y : Int) : Int := if x > y then x else y
def minI (x y : Int) : Int := if x < y then x else y
set_option maxHeartbeats 400000 in
theorem max_any (x y : Int) (w : World) (h1 : 0 ≤ x) (h2 : x ≤ 60) (h3 : 0 ≤ y) (h4 : y ≤ 60) : Calls Try.prog 34 #[.int .i64 x, .int .i64 y] w fun e w' => e = .returned (.int .i64 (maxI x y)) ∧ w = w' := by
  go_enter Try.func34, Try.ntmps34
  go_wp2
  all_goals go_ret
  all_goals exact ⟨ret_int (by unfold maxI; (repeat' split) <;> omega), rfl⟩
set_option maxHeartbeats 400000 in
theorem min_any (x y : Int) (w : World) (h1 : 0 ≤ x) (h2 : x ≤ 60) (h3 : 0 ≤ y) (h4 : y ≤ 60) : Calls Try.prog 35 #[.int .i64 x, .int .i64 y] w fun e w' => e = .returned (.int .i64 (minI x y)) ∧ w = w' := by
  go_enter Try.func35, Try.ntmps35
  go_wp2
  all_goals go_ret
  all_goals exact ⟨ret_int (by unfold minI; (repeat' split) <;> omega), rfl⟩

set_option maxHeartbeats 400000 in
theorem lcm_any (A B : Option Addr) (xs ys : List Int) (c d : Nat) (w : World) (h : IL w w.heap.size A xs) (h' : IL w w.heap.size B ys) (hl : xs.length = ys.length) (hx : Lim 60 xs) (hy : Lim 60 ys) :
    Calls Try.prog 23 #[.slice A xs.length c, .slice B ys.length d] w fun e w' => Made (zipL maxI xs ys) w e w' := by
  have HC := Lib.hid (pairs_Lcm maxI 60 A B xs ys c d w h h' hl hx hy fun x y W => max_any x y W)
  clear h h' hl hx hy
  go_enter Try.func23, Try.ntmps23
  go_wp2_with (go_at_call 31; (with_reducible refine HC.out.mono ?_); rintro e w' ⟨A2, c2, rfl, hA, hc, hb⟩; have HA := Lib.hid hA; have HB := Lib.hid hb; clear hA hb)
  go_ret
  exact ⟨_, _, rfl, HA.out, hc, HB.out⟩
set_option maxHeartbeats 400000 in
theorem gcd_any (A B : Option Addr) (xs ys : List Int) (c d : Nat) (w : World) (h : IL w w.heap.size A xs) (h' : IL w w.heap.size B ys) (hl : xs.length = ys.length) (hx : Lim 60 xs) (hy : Lim 60 ys) :
    Calls Try.prog 25 #[.slice A xs.length c, .slice B ys.length d] w fun e w' => Made (zipL minI xs ys) w e w' := by
  have HC := Lib.hid (pairs_Gcd minI 60 A B xs ys c d w h h' hl hx hy fun x y W => min_any x y W)
  clear h h' hl hx hy
  go_enter Try.func25, Try.ntmps25
  go_wp2_with (go_at_call 31; (with_reducible refine HC.out.mono ?_); rintro e w' ⟨A2, c2, rfl, hA, hc, hb⟩; have HA := Lib.hid hA; have HB := Lib.hid hb; clear hA hb)
  go_ret
  exact ⟨_, _, rfl, HA.out, hc, HB.out⟩

/-- Two results: a slice and something small. -/
def MadeWith (zs : List Int) (v : Value) (w : World) (e : Ending) (w' : World) : Prop :=
  ∃ A c, e = .returned (.tuple #[.slice A zs.length c, v]) ∧ IL w' w'.heap.size A zs ∧ zs.length ≤ c ∧ Below w.heap.size w w'

set_option maxHeartbeats 400000 in
theorem div_yes (A B : Option Addr) (xs ys : List Int) (c d : Nat) (w : World) (h : IL w w.heap.size A xs) (h' : IL w w.heap.size B ys) (hl : xs.length = ys.length) (hx : Lim 60 xs) (hy : Lim 60 ys) (hd : divB ys xs = true) :
    Calls Try.prog 18 #[.slice A xs.length c, .slice B ys.length d] w fun e w' => MadeWith (zipL (fun x y => x - y) xs ys) (.bool true) w e w' := by
  have HC := Lib.hid (pairs_Div (fun x y => x - y) 60 A B xs ys c d w h h' hl hx hy fun x y W => sub_any x y W)
  have hdd := divides_any B A ys xs d c w h' h hl.symm hy.1
  rw [hd] at hdd
  have HD := Lib.hid hdd
  clear h h' hl hx hy hd hdd
  go_enter Try.func18, Try.ntmps18
  go_wp2_with (first
    | (go_at_call 21; (with_reducible refine HD.out.mono ?_); rintro e w' ⟨rfl, rfl⟩)
    | (go_at_call 31; (with_reducible refine HC.out.mono ?_); rintro e w' ⟨A2, c2, rfl, hA, hc, hb⟩; have HA := Lib.hid hA; have HB := Lib.hid hb; clear hA hb))
  go_ret2
  exact ⟨_, _, rfl, HA.out, hc, HB.out⟩
set_option maxHeartbeats 400000 in
theorem div_no (A B : Option Addr) (xs ys : List Int) (c d : Nat) (w : World) (h : IL w w.heap.size A xs) (h' : IL w w.heap.size B ys) (hl : xs.length = ys.length) (hy : Lim 60 ys) (hd : divB ys xs = false) :
    Calls Try.prog 18 #[.slice A xs.length c, .slice B ys.length d] w fun e w' => MadeWith [] (.bool false) w e w' := by
  have hdd := divides_any B A ys xs d c w h' h hl.symm hy.1
  rw [hd] at hdd
  have HD := Lib.hid hdd
  clear h h' hl hy hd hdd
  go_enter Try.func18, Try.ntmps18
  go_wp2_with (go_at_call 21; (with_reducible refine HD.out.mono ?_); rintro e w' ⟨rfl, rfl⟩)
  go_ret2
  exact ⟨_, _, rfl, IL.nil_, by simp, Below.refl _ _⟩

set_option maxHeartbeats 400000 in
theorem mul_yes (A B : Option Addr) (xs ys : List Int) (c d : Nat) (w : World) (h : IL w w.heap.size A xs) (h' : IL w w.heap.size B ys) (hl : xs.length = ys.length) (hx : Lim 60 xs) (hy : Lim 60 ys) (hr : rightB xs.length (zipL (fun x y => x + y) xs ys) = true) :
    Calls Try.prog 16 #[.slice A xs.length c, .slice B ys.length d] w fun e w' => MadeWith (zipL (fun x y => x + y) xs ys) (.int .i64 0) w e w' := by
  have hzl : (zipL (fun x y => x + y) xs ys).length = xs.length := zipL_length _ _ _
  have HC := Lib.hid (pairs_Mul (fun x y => x + y) 60 A B xs ys c d w h h' hl hx hy fun x y W => add_any x y W)
  have h6 := hx.1
  obtain ⟨zs, hz⟩ : ∃ zs, zipL (fun x y => x + y) xs ys = zs := ⟨_, rfl⟩
  rw [hz] at HC hr hzl ⊢
  have HR : Hid (∀ (W : World) (A : Option Addr) (c : Nat), IL W W.heap.size A zs → Calls Try.prog 11 #[.int .i64 (zs.length : Int), .slice A zs.length c] W fun e w' => e = .returned (.bool true) ∧ W = w') :=
    Lib.hid fun W A c hA => by rw [← hr, ← hzl]; exact right_any _ A zs c W hA (by omega)
  clear h h' hl hx hy hr hz hzl
  go_enter Try.func16, Try.ntmps16
  go_wp2_with (first
    | (go_at_call 31; (with_reducible refine HC.out.mono ?_); rintro e w' ⟨A2, c2, rfl, hA, hc, hb⟩; have HA := Lib.hid hA; have HB := Lib.hid hb; clear hA hb)
    | (go_at_call 11; (with_reducible refine (HR.out _ _ _ HA.out).mono ?_); rintro e w' ⟨rfl, rfl⟩))
  go_ret2
  exact ⟨_, _, rfl, HA.out, hc, HB.out⟩
set_option maxHeartbeats 400000 in
theorem mul_no (A B : Option Addr) (xs ys : List Int) (c d : Nat) (w : World) (h : IL w w.heap.size A xs) (h' : IL w w.heap.size B ys) (hl : xs.length = ys.length) (hx : Lim 60 xs) (hy : Lim 60 ys) (hr : rightB xs.length (zipL (fun x y => x + y) xs ys) = false) :
    Calls Try.prog 16 #[.slice A xs.length c, .slice B ys.length d] w fun e w' => MadeWith [] (.int .i64 2) w e w' := by
  have hzl : (zipL (fun x y => x + y) xs ys).length = xs.length := zipL_length _ _ _
  have HC := Lib.hid (pairs_Mul (fun x y => x + y) 60 A B xs ys c d w h h' hl hx hy fun x y W => add_any x y W)
  have h6 := hx.1
  obtain ⟨zs, hz⟩ : ∃ zs, zipL (fun x y => x + y) xs ys = zs := ⟨_, rfl⟩
  rw [hz] at HC hr hzl
  have HR : Hid (∀ (W : World) (A : Option Addr) (c : Nat), IL W W.heap.size A zs → Calls Try.prog 11 #[.int .i64 (zs.length : Int), .slice A zs.length c] W fun e w' => e = .returned (.bool false) ∧ W = w') :=
    Lib.hid fun W A c hA => by rw [← hr, ← hzl]; exact right_any _ A zs c W hA (by omega)
  clear h h' hl hx hy hr hz hzl
  go_enter Try.func16, Try.ntmps16
  go_wp2_with (first
    | (go_at_call 31; (with_reducible refine HC.out.mono ?_); rintro e w' ⟨A2, c2, rfl, hA, hc, hb⟩; have HA := Lib.hid hA; have HB := Lib.hid hb; clear hA hb)
    | (go_at_call 11; (with_reducible refine (HR.out _ _ _ HA.out).mono ?_); rintro e w' ⟨rfl, rfl⟩))
  go_ret2
  exact ⟨_, _, rfl, IL.nil_, by simp, HB.out⟩
end Go.Proofs.Ytflobccekfgiaaa
