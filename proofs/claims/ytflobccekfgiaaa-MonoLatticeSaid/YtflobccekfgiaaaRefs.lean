/- Contracts: the document's products, quotients, multiples and divisors. -/
import Derived.Test.YtflobccekfgiaaaPairs
import Derived.Deep.RegionHeld3
namespace Go.Proofs.Ytflobccekfgiaaa
open Go.RowKit

def zipT (f : Int → Int → Int) (xs ys : List Int) (k : Nat) : List Int := (List.range k).map fun j => f (xs.getD j 0) (ys.getD j 0)
theorem zipT_step (f : Int → Int → Int) (xs ys : List Int) (k : Nat) (x y : Int) (hx : xs.getD k 0 = x) (hy : ys.getD k 0 = y) : (zipT f xs ys (k + 1)).map (Value.int .i64) = (zipT f xs ys k).map (Value.int .i64) ++ [.int .i64 (f x y)] := by
  unfold zipT
  rw [List.range_succ, List.map_append, List.map_append, ← hx, ← hy]
  rfl

/-- A value that is a row of the call's own, or nil, is a slice that reads. -/
theorem made_of_row {w' : World} {base : Nat} {e : TypeId} {v : Value} {n : Nat} {zs : List Int} (h : w'.ownsRow base e 1 v n (zs.map (Value.int .i64))) :
    ∃ A c, v = .slice A zs.length c ∧ IL w' w'.heap.size A zs ∧ zs.length ≤ c := by
  rcases h.2 with ⟨hv, h0⟩ | ⟨g, cap, cur, hv, _, _, _⟩
  · subst hv
    subst h0
    have hl : zs.length = 0 := by have := h.1; simpa using this
    refine ⟨none, 0, by rw [hl], fun hn => absurd hn (by omega), by omega⟩
  · subst hv
    obtain ⟨h1, h2, h3⟩ := IL.of_own h
    exact ⟨some ⟨g, 0, none⟩, cap, by rw [h1], h3, h2⟩

set_option maxHeartbeats 1000000 in
theorem refdiv_yes (A B : Option Addr) (xs ys : List Int) (c d : Nat) (w : World) (h : IL w w.heap.size A xs) (h' : IL w w.heap.size B ys) (hl : xs.length = ys.length) (hx : Lim 60 xs) (hy : Lim 60 ys) (hd : divB ys xs = true) :
    Calls Try.prog 19 #[.slice A xs.length c, .slice B ys.length d] w fun e w' => MadeWith (zipL (fun x y => x - y) xs ys) (.bool true) w e w' := by
  obtain ⟨i0, hi0, hz0, hz1, hz2⟩ := info_parts int_info
  have hdd := refdivides_any B A ys xs d c w h' h hl.symm hy.1
  rw [hd] at hdd
  have HD := Lib.hid hdd
  have h6 := hx.1
  have H := Lib.hid h
  have H' := Lib.hid h'
  have HL := Lib.hid hl
  have HX := Lib.hid hx
  have HY := Lib.hid hy
  clear h h' hl hx hy hd hdd
  go_enter Try.func19, Try.ntmps19
  go_wp2_with (go_at_call 22; (with_reducible refine HD.out.mono ?_); rintro e w1 ⟨rfl, hw⟩; have HW := Lib.hid hw; clear hw)
  have HB1 : Hid (Below w.heap.size w w1) := Lib.hid (below_of_drewN (Below.refl _ _) HW.out)
  clear HW
  go_loopw [6, 7] (fun v i wr => ∃ k : Nat, k ≤ xs.length ∧ i = .int .i64 k ∧ wr.ownsRow w.heap.size 3 1 v k ((zipT (fun x y => x - y) xs ys k).map (Value.int .i64)) ∧ Below w.heap.size w wr) (fun _ i _ => xs.length - (intOf i).toNat)
  case atStart => exact ⟨0, Nat.zero_le _, rfl, World.ownsRow_nil _ _ _ _, HB1.out⟩
  case round =>
    obtain ⟨k, hk, rfl, hown, hbw⟩ := hrel
    by_cases hlt : k < xs.length
    · have hlt' : k < ys.length := by have := HL.out; omega
      obtain ⟨ad, rfl, hab, hc⟩ := (H.out.below hbw) (by omega)
      obtain ⟨bd, rfl, hbb, hc'⟩ := (H'.out.below hbw) (by omega)
      have hcell := hc k hlt
      have hcell' := hc' k hlt'
      have hx1 := HX.out.2 k hlt
      have hy1 := HY.out.2 k hlt'
      obtain ⟨x, hx⟩ : ∃ x, xs.getD k 0 = x := ⟨_, rfl⟩
      obtain ⟨y, hy⟩ : ∃ y, ys.getD k 0 = y := ⟨_, rfl⟩
      rw [hx] at hcell hx1
      rw [hy] at hcell' hy1
      have HSTEP := Lib.hid (zipT_step (fun x y => x - y) xs ys k x y hx hy)
      have HO := Lib.hid hown
      have HBW := Lib.hid hbw
      have la : (ad.add k).block < w.heap.size := by rw [block_of_add]; exact hab
      have lb : (bd.add k).block < w.heap.size := by rw [block_of_add]; exact hbb
      have na : u6.ownBlock ≠ some (ad.add k).block := fun e => by have := hown.lt _ e; omega
      have nb : u6.ownBlock ≠ some (bd.add k).block := fun e => by have := hown.lt _ e; omega
      have hws := hbw.size
      have hi0' : (0 : Int) ≤ (k : Int) := Int.natCast_nonneg _
      have hi1 : (k : Int) < (xs.length : Int) := by omega
      have hi2 : (k : Int) < (ys.length : Int) := by omega
      have hw : IntKind.i64.wrap (x - y) = x - y := IntWalk.i64_in _ (by omega)
      clear hc hx hc' hy hown hbw
      go_wp2
      go_region_held3 (fun w' => w'.cell? (ad.add k) = some (.int .i64 x) ∧ w'.cell? (bd.add k) = some (.int .i64 y))
        (first
          | go_keep
          | (go_split_ands
             refine ⟨?_, ?_⟩
             · (rw [hgrow.cell_far _ (by simp; omega) (Ne.symm na)]; assumption)
             · (rw [hgrow.cell_far _ (by simp; omega) (Ne.symm nb)]; assumption)))
        ((refine step_append_lies _ (by rfl) _ _ _ (by rfl) w.heap.size 3 i0 _ 1 8 Try.underlying22 hi0 hz0 hz1 hz2 rfl (by omega) u6 k _ (by rfl) ((HO.out.alloc _).drew)
            ⟨wr.heap.size, 0, none⟩ 1 1 [.int .i64 (x - y)] (by rfl) (by rfl) (World.news_of_block (cs := #[.int .i64 (x - y)]) (t := 3) (fr := (0, 0)) (heap_alloc_new wr _)) (by simp [Value.oneCell'])
            (by omega) (by unfold maxLen; omega) (by omega) (by simp; have := HBW.out.size; omega) (wr.heap.size + 1) (by simp) ?_; intro gg cap w2 hown1 hgrow hat hlt))
      have hown2 := hown1
      rw [← HSTEP.out] at hown2
      have HO2 := Lib.hid hown2
      have hb2 : Below w.heap.size w w2 := by
        refine Below.grown ?_ hgrow ?_ ?_
        · have := HBW.out; go_grown
        · simp; omega
        · exact fun j hj => (HO.out.lt j hj).1
      have HB2 := Lib.hid hb2
      clear hown1 hown2 hgrow hat hlt hb2 hw
      go_wp2
      go_roundw
      case rel => exact ⟨k + 1, by omega, by go_num, HO2.out, HB2.out⟩
      case measure => simp [intOf]; omega
    · have hkl : k = xs.length := by omega
      subst hkl
      obtain ⟨A2, c2, hv, hA, hcc⟩ := made_of_row (zs := zipT (fun x y => x - y) xs ys xs.length) hown
      have HV := Lib.hid hv
      have HA := Lib.hid hA
      have HCC := Lib.hid hcc
      have HBW := Lib.hid hbw
      clear hown hv hA hcc hbw
      go_wp2
      go_ret2
      exact ⟨A2, c2, by rw [HV.out]; rfl, HA.out, HCC.out, HBW.out⟩

set_option maxHeartbeats 400000 in
theorem refdiv_no (A B : Option Addr) (xs ys : List Int) (c d : Nat) (w : World) (h : IL w w.heap.size A xs) (h' : IL w w.heap.size B ys) (hl : xs.length = ys.length) (hy : Lim 60 ys) (hd : divB ys xs = false) :
    Calls Try.prog 19 #[.slice A xs.length c, .slice B ys.length d] w fun e w' => MadeWith [] (.bool false) w e w' := by
  have hdd := refdivides_any B A ys xs d c w h' h hl.symm hy.1
  rw [hd] at hdd
  have HD := Lib.hid hdd
  clear h h' hl hy hd hdd
  go_enter Try.func19, Try.ntmps19
  go_wp2_with (go_at_call 22; (with_reducible refine HD.out.mono ?_); rintro e w' ⟨rfl, hw⟩; have HW := Lib.hid hw; clear hw)
  go_ret2
  exact ⟨_, _, rfl, IL.nil_, by simp, below_of_drewN (Below.refl _ _) HW.out⟩

theorem right_zip {xs ys : List Int} (hl : xs.length = ys.length) (hx : Lim 60 xs) (hy : Lim 60 ys) : (rightB xs.length (zipL (fun x y => x + y) xs ys) = true) ↔ ∀ k, k < xs.length → xs.getD k 0 + ys.getD k 0 ≤ 60 := by
  unfold rightB
  rw [decide_eq_true_iff]
  constructor
  · rintro ⟨_, _, h⟩ k hk
    have := h k (by rw [zipL_length]; exact hk)
    rw [zipL_getD hk] at this
    exact this.2
  · intro h
    refine ⟨by rw [zipL_length], by rw [zipL_length]; exact hx.1, fun k hk => ?_⟩
    rw [zipL_length] at hk
    rw [zipL_getD hk]
    have h1 := hx.2 k hk
    have h2 := hy.2 k (by omega)
    exact ⟨by omega, h k hk⟩

set_option maxHeartbeats 1000000 in
theorem refmul_yes (A B : Option Addr) (xs ys : List Int) (c d : Nat) (w : World) (h : IL w w.heap.size A xs) (h' : IL w w.heap.size B ys) (hl : xs.length = ys.length) (hx : Lim 60 xs) (hy : Lim 60 ys) (hr : rightB xs.length (zipL (fun x y => x + y) xs ys) = true) :
    Calls Try.prog 17 #[.slice A xs.length c, .slice B ys.length d] w fun e w' => MadeWith (zipL (fun x y => x + y) xs ys) (.int .i64 0) w e w' := by
  obtain ⟨i0, hi0, hz0, hz1, hz2⟩ := info_parts int_info
  have hall := (right_zip hl hx hy).1 hr
  have HALL := Lib.hid hall
  have h6 := hx.1
  have H := Lib.hid h
  have H' := Lib.hid h'
  have HL := Lib.hid hl
  have HX := Lib.hid hx
  have HY := Lib.hid hy
  clear h h' hl hx hy hr hall
  go_enter Try.func17, Try.ntmps17
  go_wp2
  go_loopw [6, 7] (fun v i wr => ∃ k : Nat, k ≤ xs.length ∧ i = .int .i64 k ∧ wr.ownsRow w.heap.size 3 1 v k ((zipT (fun x y => x + y) xs ys k).map (Value.int .i64)) ∧ Below w.heap.size w wr) (fun _ i _ => xs.length - (intOf i).toNat)
  case atStart => exact ⟨0, Nat.zero_le _, rfl, World.ownsRow_nil _ _ _ _, Below.refl _ _⟩
  case round =>
    obtain ⟨k, hk, rfl, hown, hbw⟩ := hrel
    by_cases hlt : k < xs.length
    · have hlt' : k < ys.length := by have := HL.out; omega
      obtain ⟨ad, rfl, hab, hc⟩ := (H.out.below hbw) (by omega)
      obtain ⟨bd, rfl, hbb, hc'⟩ := (H'.out.below hbw) (by omega)
      have hcell := hc k hlt
      have hcell' := hc' k hlt'
      have hx1 := HX.out.2 k hlt
      have hy1 := HY.out.2 k hlt'
      obtain ⟨x, hx⟩ : ∃ x, xs.getD k 0 = x := ⟨_, rfl⟩
      obtain ⟨y, hy⟩ : ∃ y, ys.getD k 0 = y := ⟨_, rfl⟩
      have hsum := HALL.out k hlt
      rw [hx] at hcell hx1 hsum
      rw [hy] at hcell' hy1 hsum
      have HSTEP := Lib.hid (zipT_step (fun x y => x + y) xs ys k x y hx hy)
      have HO := Lib.hid hown
      have HBW := Lib.hid hbw
      have hsum := HALL.out k hlt
      have la : (ad.add k).block < w.heap.size := by rw [block_of_add]; exact hab
      have lb : (bd.add k).block < w.heap.size := by rw [block_of_add]; exact hbb
      have na : u6.ownBlock ≠ some (ad.add k).block := fun e => by have := hown.lt _ e; omega
      have nb : u6.ownBlock ≠ some (bd.add k).block := fun e => by have := hown.lt _ e; omega
      have hws := hbw.size
      have hi0' : (0 : Int) ≤ (k : Int) := Int.natCast_nonneg _
      have hi1 : (k : Int) < (xs.length : Int) := by omega
      have hi2 : (k : Int) < (ys.length : Int) := by omega
      have hw : IntKind.i64.wrap (x + y) = x + y := IntWalk.i64_in _ (by omega)
      clear hc hx hc' hy hown hbw
      go_wp2
      go_quiet (fail)
      go_wp2
      have hcell3 : (wr.drewN nq).cell? (ad.add k) = some (.int .i64 x) := hcell
      have hcell3' : (wr.drewN nq).cell? (bd.add k) = some (.int .i64 y) := hcell'
      have hws3 : w.heap.size ≤ (wr.drewN nq).heap.size := hws
      have HO3 : Hid ((wr.drewN nq).ownsRow w.heap.size 3 1 u6 k ((zipT (fun x y => x + y) xs ys k).map (Value.int .i64))) := HO
      have HBW3 : Hid (Below w.heap.size w (wr.drewN nq)) := Lib.hid (below_drewN HBW.out nq)
      clear hcell hcell' hws HO HBW
      generalize wr.drewN nq = wq at *
      go_region_held3 (fun w' => w'.cell? (ad.add k) = some (.int .i64 x) ∧ w'.cell? (bd.add k) = some (.int .i64 y))
        (first
          | go_keep
          | (go_split_ands
             refine ⟨?_, ?_⟩
             · (rw [hgrow.cell_far _ (by simp; omega) (Ne.symm na)]; assumption)
             · (rw [hgrow.cell_far _ (by simp; omega) (Ne.symm nb)]; assumption)))
        ((refine step_append_lies _ (by rfl) _ _ _ (by rfl) w.heap.size 3 i0 _ 1 8 Try.underlying22 hi0 hz0 hz1 hz2 rfl (by omega) u6 k _ (by rfl) ((HO3.out.alloc _).drew)
            ⟨wq.heap.size, 0, none⟩ 1 1 [.int .i64 (x + y)] (by rfl) (by rfl) (World.news_of_block (cs := #[.int .i64 (x + y)]) (t := 3) (fr := (0, 0)) (heap_alloc_new wq _)) (by simp [Value.oneCell'])
            (by omega) (by unfold maxLen; omega) (by omega) (by simp; have := HBW3.out.size; omega) (wq.heap.size + 1) (by simp) ?_; intro gg cap w2 hown1 hgrow hat hlt))
      have hown2 := hown1
      rw [← HSTEP.out] at hown2
      have HO2 := Lib.hid hown2
      have hb2 : Below w.heap.size w w2 := by
        refine Below.grown ?_ hgrow ?_ ?_
        · have := HBW3.out; go_grown
        · simp; omega
        · exact fun j hj => (HO3.out.lt j hj).1
      have HB2 := Lib.hid hb2
      clear hown1 hown2 hgrow hat hlt hb2 hw
      go_wp2
      go_roundw
      case rel => exact ⟨k + 1, by omega, by go_num, HO2.out, HB2.out⟩
      case measure => simp [intOf]; omega
    · have hkl : k = xs.length := by omega
      subst hkl
      obtain ⟨A2, c2, hv, hA, hcc⟩ := made_of_row (zs := zipT (fun x y => x + y) xs ys xs.length) hown
      have HV := Lib.hid hv
      have HA := Lib.hid hA
      have HCC := Lib.hid hcc
      have HBW := Lib.hid hbw
      clear hown hv hA hcc hbw
      go_wp2
      go_ret2
      exact ⟨A2, c2, by rw [HV.out]; rfl, HA.out, HCC.out, HBW.out⟩

set_option maxHeartbeats 1000000 in
theorem refmul_no (A B : Option Addr) (xs ys : List Int) (c d : Nat) (w : World) (h : IL w w.heap.size A xs) (h' : IL w w.heap.size B ys) (hl : xs.length = ys.length) (hx : Lim 60 xs) (hy : Lim 60 ys) (hr : rightB xs.length (zipL (fun x y => x + y) xs ys) = false) :
    Calls Try.prog 17 #[.slice A xs.length c, .slice B ys.length d] w fun e w' => MadeWith [] (.int .i64 2) w e w' := by
  obtain ⟨i0, hi0, hz0, hz1, hz2⟩ := info_parts int_info
  have hall : ¬ ∀ k, k < xs.length → xs.getD k 0 + ys.getD k 0 ≤ 60 := fun h => by rw [(right_zip hl hx hy).2 h] at hr; cases hr
  have HALL := Lib.hid hall
  have h6 := hx.1
  have H := Lib.hid h
  have H' := Lib.hid h'
  have HL := Lib.hid hl
  have HX := Lib.hid hx
  have HY := Lib.hid hy
  clear h h' hl hx hy hr hall
  go_enter Try.func17, Try.ntmps17
  go_wp2
  go_loopw [6, 7] (fun v i wr => ∃ k : Nat, k ≤ xs.length ∧ i = .int .i64 k ∧ wr.ownsRow w.heap.size 3 1 v k ((zipT (fun x y => x + y) xs ys k).map (Value.int .i64)) ∧ Below w.heap.size w wr ∧ ∀ j, j < k → xs.getD j 0 + ys.getD j 0 ≤ 60) (fun _ i _ => xs.length - (intOf i).toNat)
  case atStart => exact ⟨0, Nat.zero_le _, rfl, World.ownsRow_nil _ _ _ _, Below.refl _ _, fun j hj => absurd hj (by omega)⟩
  case round =>
    obtain ⟨k, hk, rfl, hown, hbw, hsofar⟩ := hrel
    have HS := Lib.hid hsofar
    clear hsofar
    by_cases hlt : k < xs.length
    · have hlt' : k < ys.length := by have := HL.out; omega
      obtain ⟨ad, rfl, hab, hc⟩ := (H.out.below hbw) (by omega)
      obtain ⟨bd, rfl, hbb, hc'⟩ := (H'.out.below hbw) (by omega)
      have hcell := hc k hlt
      have hcell' := hc' k hlt'
      have hx1 := HX.out.2 k hlt
      have hy1 := HY.out.2 k hlt'
      obtain ⟨x, hx⟩ : ∃ x, xs.getD k 0 = x := ⟨_, rfl⟩
      obtain ⟨y, hy⟩ : ∃ y, ys.getD k 0 = y := ⟨_, rfl⟩
      rw [hx] at hcell hx1
      rw [hy] at hcell' hy1
      have HSTEP := Lib.hid (zipT_step (fun x y => x + y) xs ys k x y hx hy)
      have HO := Lib.hid hown
      have HBW := Lib.hid hbw
      have la : (ad.add k).block < w.heap.size := by rw [block_of_add]; exact hab
      have lb : (bd.add k).block < w.heap.size := by rw [block_of_add]; exact hbb
      have na : u6.ownBlock ≠ some (ad.add k).block := fun e => by have := hown.lt _ e; omega
      have nb : u6.ownBlock ≠ some (bd.add k).block := fun e => by have := hown.lt _ e; omega
      have hws := hbw.size
      have hi0' : (0 : Int) ≤ (k : Int) := Int.natCast_nonneg _
      have hi1 : (k : Int) < (xs.length : Int) := by omega
      have hi2 : (k : Int) < (ys.length : Int) := by omega
      have hw : IntKind.i64.wrap (x + y) = x + y := IntWalk.i64_in _ (by omega)
      have HXE := Lib.hid hx
      have HYE := Lib.hid hy
      clear hc hx hc' hy hown hbw
      by_cases hsum : x + y ≤ 60
      rotate_left
      · go_wp2
        go_quiet (fail)
        go_wp2
        go_ret2
        exact ⟨_, _, rfl, IL.nil_, by simp, below_drewN HBW.out _⟩
      go_wp2
      go_quiet (fail)
      go_wp2
      have hcell3 : (wr.drewN nq).cell? (ad.add k) = some (.int .i64 x) := hcell
      have hcell3' : (wr.drewN nq).cell? (bd.add k) = some (.int .i64 y) := hcell'
      have hws3 : w.heap.size ≤ (wr.drewN nq).heap.size := hws
      have HO3 : Hid ((wr.drewN nq).ownsRow w.heap.size 3 1 u6 k ((zipT (fun x y => x + y) xs ys k).map (Value.int .i64))) := HO
      have HBW3 : Hid (Below w.heap.size w (wr.drewN nq)) := Lib.hid (below_drewN HBW.out nq)
      clear hcell hcell' hws HO HBW
      generalize wr.drewN nq = wq at *
      go_region_held3 (fun w' => w'.cell? (ad.add k) = some (.int .i64 x) ∧ w'.cell? (bd.add k) = some (.int .i64 y))
        (first
          | go_keep
          | (go_split_ands
             refine ⟨?_, ?_⟩
             · (rw [hgrow.cell_far _ (by simp; omega) (Ne.symm na)]; assumption)
             · (rw [hgrow.cell_far _ (by simp; omega) (Ne.symm nb)]; assumption)))
        ((refine step_append_lies _ (by rfl) _ _ _ (by rfl) w.heap.size 3 i0 _ 1 8 Try.underlying22 hi0 hz0 hz1 hz2 rfl (by omega) u6 k _ (by rfl) ((HO3.out.alloc _).drew)
            ⟨wq.heap.size, 0, none⟩ 1 1 [.int .i64 (x + y)] (by rfl) (by rfl) (World.news_of_block (cs := #[.int .i64 (x + y)]) (t := 3) (fr := (0, 0)) (heap_alloc_new wq _)) (by simp [Value.oneCell'])
            (by omega) (by unfold maxLen; omega) (by omega) (by simp; have := HBW3.out.size; omega) (wq.heap.size + 1) (by simp) ?_; intro gg cap w2 hown1 hgrow hat hlt))
      have hown2 := hown1
      rw [← HSTEP.out] at hown2
      have HO2 := Lib.hid hown2
      have hb2 : Below w.heap.size w w2 := by
        refine Below.grown ?_ hgrow ?_ ?_
        · have := HBW3.out; go_grown
        · simp; omega
        · exact fun j hj => (HO3.out.lt j hj).1
      have HB2 := Lib.hid hb2
      clear hown1 hown2 hgrow hat hlt hb2 hw
      go_wp2
      go_roundw
      case rel => exact ⟨k + 1, by omega, by go_num, HO2.out, HB2.out, fun j hj => by
        by_cases e : j = k
        · rw [e, HXE.out, HYE.out]; exact hsum
        · exact HS.out j (by omega)⟩
      case measure => simp [intOf]; omega
    · exact absurd (fun j hj => HS.out j (by omega)) HALL.out

theorem ownsRow_drewN {w : World} {base : Nat} {e : TypeId} {size n : Nat} {v : Value} {xs : List Value} (h : w.ownsRow base e size v n xs) (k : Nat) : (w.drewN k).ownsRow base e size v n xs := h

set_option maxHeartbeats 1000000 in
theorem reflcm_any (A B : Option Addr) (xs ys : List Int) (c d : Nat) (w : World) (h : IL w w.heap.size A xs) (h' : IL w w.heap.size B ys) (hl : xs.length = ys.length) (hx : Lim 60 xs) (hy : Lim 60 ys) :
    Calls Try.prog 24 #[.slice A xs.length c, .slice B ys.length d] w fun e w' => Made (zipL maxI xs ys) w e w' := by
  obtain ⟨i0, hi0, hz0, hz1, hz2⟩ := info_parts int_info
  have h6 := hx.1
  have H := Lib.hid h
  have H' := Lib.hid h'
  have HL := Lib.hid hl
  have HX := Lib.hid hx
  have HY := Lib.hid hy
  clear h h' hl hx hy
  go_enter Try.func24, Try.ntmps24
  go_wp2
  go_loopw [5, 6] (fun v i wr => ∃ k : Nat, k ≤ xs.length ∧ i = .int .i64 k ∧ wr.ownsRow w.heap.size 3 1 v k ((zipT maxI xs ys k).map (Value.int .i64)) ∧ Below w.heap.size w wr) (fun _ i _ => xs.length - (intOf i).toNat)
  case atStart => exact ⟨0, Nat.zero_le _, rfl, World.ownsRow_nil _ _ _ _, Below.refl _ _⟩
  case round =>
    obtain ⟨k, hk, rfl, hown, hbw⟩ := hrel
    by_cases hlt : k < xs.length
    · have hlt' : k < ys.length := by have := HL.out; omega
      obtain ⟨ad, rfl, hab, hc⟩ := (H.out.below hbw) (by omega)
      obtain ⟨bd, rfl, hbb, hc'⟩ := (H'.out.below hbw) (by omega)
      have hcell := hc k hlt
      have hcell' := hc' k hlt'
      have hx1 := HX.out.2 k hlt
      have hy1 := HY.out.2 k hlt'
      obtain ⟨x, hx⟩ : ∃ x, xs.getD k 0 = x := ⟨_, rfl⟩
      obtain ⟨y, hy⟩ : ∃ y, ys.getD k 0 = y := ⟨_, rfl⟩
      rw [hx] at hcell hx1
      rw [hy] at hcell' hy1
      have HSTEP := Lib.hid (zipT_step maxI xs ys k x y hx hy)
      have HO := Lib.hid hown
      have HBW := Lib.hid hbw
      have la : (ad.add k).block < w.heap.size := by rw [block_of_add]; exact hab
      have lb : (bd.add k).block < w.heap.size := by rw [block_of_add]; exact hbb
      have na : u5.ownBlock ≠ some (ad.add k).block := fun e => by have := hown.lt _ e; omega
      have nb : u5.ownBlock ≠ some (bd.add k).block := fun e => by have := hown.lt _ e; omega
      have hws := hbw.size
      have hi0' : (0 : Int) ≤ (k : Int) := Int.natCast_nonneg _
      have hi1 : (k : Int) < (xs.length : Int) := by omega
      have hi2 : (k : Int) < (ys.length : Int) := by omega
      clear hc hx hc' hy hown hbw
      by_cases hxy : y < x
      · go_wp2
        go_quiet (fail)
        go_wp2_with (at_builtin; refine wpList_append_lies _ rfl _ _ 22 rfl w.heap.size 3 i0 (.int .i64 0) 1 8 Try.underlying22 hi0 hz0 hz1 hz2 rfl (by omega) u5 k _ rfl ((ownsRow_drewN HO.out nq).alloc _) ⟨wr.heap.size, 0, none⟩ 1 1 [.int .i64 x] rfl rfl (World.news_of_block (cs := #[.int .i64 x]) (t := 3) (fr := (0, 0)) (heap_alloc_new (wr.drewN nq) _)) (by simp [Value.oneCell']) (by omega) (by unfold maxLen; omega) (by omega) (by simp; omega) (wr.heap.size + 1) (by simp) ?_; intro gg cap w2 hown1 hgrow hat hlt2; have HOWN1 := Lib.hid hown1; have HGROW := Lib.hid hgrow; clear hown1 hgrow hat hlt2)
        have hown2 := HOWN1.out
        have hval : maxI x y = x := by unfold maxI; (repeat' split) <;> omega
        rw [← hval] at hown2
        rw [← HSTEP.out] at hown2
        have HO2 := Lib.hid hown2
        have hb2 : Below w.heap.size w w2 := by
          refine Below.grown ?_ HGROW.out ?_ ?_
          · exact (below_drewN HBW.out nq).alloc (by simp; omega) _
          · simp; omega
          · exact fun j hj => (HO.out.lt j hj).1
        have HB2 := Lib.hid hb2
        clear hown2 hb2 hval
        go_wp2
        go_roundw
        case rel => exact ⟨k + 1, by omega, by go_num, HO2.out, HB2.out⟩
        case measure => simp [intOf]; omega
      · go_wp2
        go_quiet (fail)
        go_wp2_with (at_builtin; refine wpList_append_lies _ rfl _ _ 22 rfl w.heap.size 3 i0 (.int .i64 0) 1 8 Try.underlying22 hi0 hz0 hz1 hz2 rfl (by omega) u5 k _ rfl ((ownsRow_drewN HO.out nq).alloc _) ⟨wr.heap.size, 0, none⟩ 1 1 [.int .i64 y] rfl rfl (World.news_of_block (cs := #[.int .i64 y]) (t := 3) (fr := (0, 0)) (heap_alloc_new (wr.drewN nq) _)) (by simp [Value.oneCell']) (by omega) (by unfold maxLen; omega) (by omega) (by simp; omega) (wr.heap.size + 1) (by simp) ?_; intro gg cap w2 hown1 hgrow hat hlt2; have HOWN1 := Lib.hid hown1; have HGROW := Lib.hid hgrow; clear hown1 hgrow hat hlt2)
        have hown2 := HOWN1.out
        have hval : maxI x y = y := by unfold maxI; (repeat' split) <;> omega
        rw [← hval] at hown2
        rw [← HSTEP.out] at hown2
        have HO2 := Lib.hid hown2
        have hb2 : Below w.heap.size w w2 := by
          refine Below.grown ?_ HGROW.out ?_ ?_
          · exact (below_drewN HBW.out nq).alloc (by simp; omega) _
          · simp; omega
          · exact fun j hj => (HO.out.lt j hj).1
        have HB2 := Lib.hid hb2
        clear hown2 hb2 hval
        go_wp2
        go_roundw
        case rel => exact ⟨k + 1, by omega, by go_num, HO2.out, HB2.out⟩
        case measure => simp [intOf]; omega
    · have hkl : k = xs.length := by omega
      subst hkl
      obtain ⟨A2, c2, hv, hA, hcc⟩ := made_of_row (zs := zipT maxI xs ys xs.length) hown
      have HV := Lib.hid hv
      have HA := Lib.hid hA
      have HCC := Lib.hid hcc
      have HBW := Lib.hid hbw
      clear hown hv hA hcc hbw
      go_wp2
      go_ret
      exact ⟨A2, c2, by rw [HV.out]; rfl, HA.out, HCC.out, HBW.out⟩


set_option maxHeartbeats 1000000 in
theorem refgcd_any (A B : Option Addr) (xs ys : List Int) (c d : Nat) (w : World) (h : IL w w.heap.size A xs) (h' : IL w w.heap.size B ys) (hl : xs.length = ys.length) (hx : Lim 60 xs) (hy : Lim 60 ys) :
    Calls Try.prog 26 #[.slice A xs.length c, .slice B ys.length d] w fun e w' => Made (zipL minI xs ys) w e w' := by
  obtain ⟨i0, hi0, hz0, hz1, hz2⟩ := info_parts int_info
  have h6 := hx.1
  have H := Lib.hid h
  have H' := Lib.hid h'
  have HL := Lib.hid hl
  have HX := Lib.hid hx
  have HY := Lib.hid hy
  clear h h' hl hx hy
  go_enter Try.func26, Try.ntmps26
  go_wp2
  go_loopw [5, 6] (fun v i wr => ∃ k : Nat, k ≤ xs.length ∧ i = .int .i64 k ∧ wr.ownsRow w.heap.size 3 1 v k ((zipT minI xs ys k).map (Value.int .i64)) ∧ Below w.heap.size w wr) (fun _ i _ => xs.length - (intOf i).toNat)
  case atStart => exact ⟨0, Nat.zero_le _, rfl, World.ownsRow_nil _ _ _ _, Below.refl _ _⟩
  case round =>
    obtain ⟨k, hk, rfl, hown, hbw⟩ := hrel
    by_cases hlt : k < xs.length
    · have hlt' : k < ys.length := by have := HL.out; omega
      obtain ⟨ad, rfl, hab, hc⟩ := (H.out.below hbw) (by omega)
      obtain ⟨bd, rfl, hbb, hc'⟩ := (H'.out.below hbw) (by omega)
      have hcell := hc k hlt
      have hcell' := hc' k hlt'
      have hx1 := HX.out.2 k hlt
      have hy1 := HY.out.2 k hlt'
      obtain ⟨x, hx⟩ : ∃ x, xs.getD k 0 = x := ⟨_, rfl⟩
      obtain ⟨y, hy⟩ : ∃ y, ys.getD k 0 = y := ⟨_, rfl⟩
      rw [hx] at hcell hx1
      rw [hy] at hcell' hy1
      have HSTEP := Lib.hid (zipT_step minI xs ys k x y hx hy)
      have HO := Lib.hid hown
      have HBW := Lib.hid hbw
      have la : (ad.add k).block < w.heap.size := by rw [block_of_add]; exact hab
      have lb : (bd.add k).block < w.heap.size := by rw [block_of_add]; exact hbb
      have na : u5.ownBlock ≠ some (ad.add k).block := fun e => by have := hown.lt _ e; omega
      have nb : u5.ownBlock ≠ some (bd.add k).block := fun e => by have := hown.lt _ e; omega
      have hws := hbw.size
      have hi0' : (0 : Int) ≤ (k : Int) := Int.natCast_nonneg _
      have hi1 : (k : Int) < (xs.length : Int) := by omega
      have hi2 : (k : Int) < (ys.length : Int) := by omega
      clear hc hx hc' hy hown hbw
      by_cases hxy : x < y
      · go_wp2
        go_quiet (fail)
        go_wp2_with (at_builtin; refine wpList_append_lies _ rfl _ _ 22 rfl w.heap.size 3 i0 (.int .i64 0) 1 8 Try.underlying22 hi0 hz0 hz1 hz2 rfl (by omega) u5 k _ rfl ((ownsRow_drewN HO.out nq).alloc _) ⟨wr.heap.size, 0, none⟩ 1 1 [.int .i64 x] rfl rfl (World.news_of_block (cs := #[.int .i64 x]) (t := 3) (fr := (0, 0)) (heap_alloc_new (wr.drewN nq) _)) (by simp [Value.oneCell']) (by omega) (by unfold maxLen; omega) (by omega) (by simp; omega) (wr.heap.size + 1) (by simp) ?_; intro gg cap w2 hown1 hgrow hat hlt2; have HOWN1 := Lib.hid hown1; have HGROW := Lib.hid hgrow; clear hown1 hgrow hat hlt2)
        have hown2 := HOWN1.out
        have hval : minI x y = x := by unfold minI; (repeat' split) <;> omega
        rw [← hval] at hown2
        rw [← HSTEP.out] at hown2
        have HO2 := Lib.hid hown2
        have hb2 : Below w.heap.size w w2 := by
          refine Below.grown ?_ HGROW.out ?_ ?_
          · exact (below_drewN HBW.out nq).alloc (by simp; omega) _
          · simp; omega
          · exact fun j hj => (HO.out.lt j hj).1
        have HB2 := Lib.hid hb2
        clear hown2 hb2 hval
        go_wp2
        go_roundw
        case rel => exact ⟨k + 1, by omega, by go_num, HO2.out, HB2.out⟩
        case measure => simp [intOf]; omega
      · go_wp2
        go_quiet (fail)
        go_wp2_with (at_builtin; refine wpList_append_lies _ rfl _ _ 22 rfl w.heap.size 3 i0 (.int .i64 0) 1 8 Try.underlying22 hi0 hz0 hz1 hz2 rfl (by omega) u5 k _ rfl ((ownsRow_drewN HO.out nq).alloc _) ⟨wr.heap.size, 0, none⟩ 1 1 [.int .i64 y] rfl rfl (World.news_of_block (cs := #[.int .i64 y]) (t := 3) (fr := (0, 0)) (heap_alloc_new (wr.drewN nq) _)) (by simp [Value.oneCell']) (by omega) (by unfold maxLen; omega) (by omega) (by simp; omega) (wr.heap.size + 1) (by simp) ?_; intro gg cap w2 hown1 hgrow hat hlt2; have HOWN1 := Lib.hid hown1; have HGROW := Lib.hid hgrow; clear hown1 hgrow hat hlt2)
        have hown2 := HOWN1.out
        have hval : minI x y = y := by unfold minI; (repeat' split) <;> omega
        rw [← hval] at hown2
        rw [← HSTEP.out] at hown2
        have HO2 := Lib.hid hown2
        have hb2 : Below w.heap.size w w2 := by
          refine Below.grown ?_ HGROW.out ?_ ?_
          · exact (below_drewN HBW.out nq).alloc (by simp; omega) _
          · simp; omega
          · exact fun j hj => (HO.out.lt j hj).1
        have HB2 := Lib.hid hb2
        clear hown2 hb2 hval
        go_wp2
        go_roundw
        case rel => exact ⟨k + 1, by omega, by go_num, HO2.out, HB2.out⟩
        case measure => simp [intOf]; omega
    · have hkl : k = xs.length := by omega
      subst hkl
      obtain ⟨A2, c2, hv, hA, hcc⟩ := made_of_row (zs := zipT minI xs ys xs.length) hown
      have HV := Lib.hid hv
      have HA := Lib.hid hA
      have HCC := Lib.hid hcc
      have HBW := Lib.hid hbw
      clear hown hv hA hcc hbw
      go_wp2
      go_ret
      exact ⟨A2, c2, by rw [HV.out]; rfl, HA.out, HCC.out, HBW.out⟩

end Go.Proofs.Ytflobccekfgiaaa
