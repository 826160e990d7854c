/- The walk of MonoKeeps. -/
import Derived.Test.YtflobccekfgiaaaOrd
namespace Go.Proofs.Ytflobccekfgiaaa
open Go.RowKit

set_option maxHeartbeats 2000000 in
theorem law_keeps (k cut : Int) (A B C : Option Addr) (xs ys zs : List Int) (c d f : Nat) (w : World) (h : IL w w.heap.size A xs) (h' : IL w w.heap.size B ys) (h'' : IL w w.heap.size C zs) (hxl : xs.length ≤ 9223372036854775807) (hyl : ys.length ≤ 9223372036854775807) (hzl : zs.length ≤ 9223372036854775807) (hc : xs.length ≤ c) (hd : ys.length ≤ d) (hf : zs.length ≤ f) :
    Calls Try.prog 7 #[.agg #[.int .i64 k, .int .i64 cut], .slice A xs.length c, .slice B ys.length d, .slice C zs.length f] w fun e w' => e = .returned (.bool true) ∧ Below w.heap.size w w' := by
  have HA_0 : Hid _ := Lib.hid h
  have HB2_0 : Hid _ := Lib.hid h'
  have HC2_0 : Hid _ := Lib.hid h''
  have T1 : Hid (∀ W : World, IL W W.heap.size A xs → IL W W.heap.size B ys → Calls Try.prog 15 #[.slice A xs.length c, .slice B ys.length d] W fun e w' => e = .returned (.bool (twoB xs ys)) ∧ W = w') :=
    Lib.hid fun W h h' => two_any A B xs ys c d W h h' hxl hyl
  have T2 : Hid (∀ W : World, IL W W.heap.size A xs → IL W W.heap.size C zs → Calls Try.prog 15 #[.slice A xs.length c, .slice C zs.length f] W fun e w' => e = .returned (.bool (twoB xs zs)) ∧ W = w') :=
    Lib.hid fun W h h' => two_any A C xs zs c f W h h' hxl hzl
  have T3 : Hid (∀ W : World, Calls Try.prog 14 #[.int .i64 (xs.length : Int), .agg #[.int .i64 k, .int .i64 cut]] W fun e w' => e = .returned (.bool (orderB xs.length k cut)) ∧ Below W.heap.size W w') :=
    Lib.hid fun W => reforder_any xs.length k cut W
  cases ht1 : twoB xs ys
  · rw [ht1] at T1
    clear T2 T3
    clear ht1
    clear h h' h''
    go_enter Try.func7, Try.ntmps7
    go_wp2_with (first
      | (go_at_call 10; (with_reducible refine (awake_any _).mono ?_); rintro e w1 ⟨rfl, hb1⟩; have HB_1 := Lib.hid (below_chain (w := w) (by go_grown) hb1); have HA_1 := Lib.hid (HA_0.out.up HB_1.out); have HB2_1 := Lib.hid (HB2_0.out.up HB_1.out); have HC2_1 := Lib.hid (HC2_0.out.up HB_1.out); have o1 := (hb1.cell (p := ⟨w.heap.size, 0, none⟩) (by (try simp only [World.size_alloc]); omega)).trans (show _ = some (Value.int .i64 k) by go_cell); have p1 := (hb1.cell (p := ⟨w.heap.size, 1, none⟩) (by (try simp only [World.size_alloc]); omega)).trans (show _ = some (Value.int .i64 cut) by go_cell); have z1 : w.heap.size < w1.heap.size := (by (have := hb1.size; (try simp only [World.size_alloc] at this); omega)); clear hb1)
      | (go_at_call 15; (with_reducible refine (T1.out _ HA_1.out HB2_1.out).mono ?_); rintro e w' ⟨rfl, rfl⟩))
    go_ret
    exact ⟨rfl, HB_1.out⟩
  cases ht2 : twoB xs zs
  · rw [ht1] at T1
    rw [ht2] at T2
    clear T3
    clear ht1 ht2
    clear h h' h''
    go_enter Try.func7, Try.ntmps7
    go_wp2_with (first
      | (go_at_call 10; (with_reducible refine (awake_any _).mono ?_); rintro e w1 ⟨rfl, hb1⟩; have HB_1 := Lib.hid (below_chain (w := w) (by go_grown) hb1); have HA_1 := Lib.hid (HA_0.out.up HB_1.out); have HB2_1 := Lib.hid (HB2_0.out.up HB_1.out); have HC2_1 := Lib.hid (HC2_0.out.up HB_1.out); have o1 := (hb1.cell (p := ⟨w.heap.size, 0, none⟩) (by (try simp only [World.size_alloc]); omega)).trans (show _ = some (Value.int .i64 k) by go_cell); have p1 := (hb1.cell (p := ⟨w.heap.size, 1, none⟩) (by (try simp only [World.size_alloc]); omega)).trans (show _ = some (Value.int .i64 cut) by go_cell); have z1 : w.heap.size < w1.heap.size := (by (have := hb1.size; (try simp only [World.size_alloc] at this); omega)); clear hb1)
      | (go_at_call 15; (with_reducible refine (T1.out _ HA_1.out HB2_1.out).mono ?_); rintro e w' ⟨rfl, rfl⟩)
      | (go_at_call 15; (with_reducible refine (T2.out _ HA_1.out HC2_1.out).mono ?_); rintro e w' ⟨rfl, rfl⟩))
    go_ret
    exact ⟨rfl, HB_1.out⟩
  cases ho : orderB xs.length k cut
  · rw [ht1] at T1
    rw [ht2] at T2
    rw [ho] at T3
    clear ht1 ht2 ho
    clear h h' h''
    go_enter Try.func7, Try.ntmps7
    go_wp2_with (first
      | (go_at_call 10; (with_reducible refine (awake_any _).mono ?_); rintro e w1 ⟨rfl, hb1⟩; have HB_1 := Lib.hid (below_chain (w := w) (by go_grown) hb1); have HA_1 := Lib.hid (HA_0.out.up HB_1.out); have HB2_1 := Lib.hid (HB2_0.out.up HB_1.out); have HC2_1 := Lib.hid (HC2_0.out.up HB_1.out); have o1 := (hb1.cell (p := ⟨w.heap.size, 0, none⟩) (by (try simp only [World.size_alloc]); omega)).trans (show _ = some (Value.int .i64 k) by go_cell); have p1 := (hb1.cell (p := ⟨w.heap.size, 1, none⟩) (by (try simp only [World.size_alloc]); omega)).trans (show _ = some (Value.int .i64 cut) by go_cell); have z1 : w.heap.size < w1.heap.size := (by (have := hb1.size; (try simp only [World.size_alloc] at this); omega)); clear hb1)
      | (go_at_call 15; (with_reducible refine (T1.out _ HA_1.out HB2_1.out).mono ?_); rintro e w' ⟨rfl, rfl⟩)
      | (go_at_call 15; (with_reducible refine (T2.out _ HA_1.out HC2_1.out).mono ?_); rintro e w' ⟨rfl, rfl⟩)
      | (go_at_call 14; (with_reducible refine (T3.out _).mono ?_); rintro e w2 ⟨rfl, hb⟩; have o2 := (hb.cell (p := ⟨w.heap.size, 0, none⟩) z1).trans o1; have p2 := (hb.cell (p := ⟨w.heap.size, 1, none⟩) z1).trans p1; have z2 := Nat.lt_of_lt_of_le z1 hb.size; have HA_2 := Lib.hid (HA_1.out.up hb); have HB2_2 := Lib.hid (HB2_1.out.up hb); have HC2_2 := Lib.hid (HC2_1.out.up hb); have HB_2 := Lib.hid (below_chain HB_1.out hb); clear hb))
    go_ret
    exact ⟨rfl, HB_2.out⟩
  obtain ⟨hl, hx, hy⟩ := two_lim ht1
  obtain ⟨hl', _, hz⟩ := two_lim ht2
  have h6 := hx.1
  rw [ht1] at T1
  rw [ht2] at T2
  rw [ho] at T3
  obtain ⟨mx, hmx⟩ : ∃ z, mulZ xs zs = z := ⟨_, rfl⟩
  obtain ⟨ex, hex⟩ : ∃ z, mulE xs zs = z := ⟨_, rfl⟩
  obtain ⟨my, hmy⟩ : ∃ z, mulZ ys zs = z := ⟨_, rfl⟩
  obtain ⟨ey, hey⟩ : ∃ z, mulE ys zs = z := ⟨_, rfl⟩
  have P1 : Hid (∀ W : World, IL W W.heap.size A xs → IL W W.heap.size C zs → Calls Try.prog 16 #[.slice A xs.length c, .slice C zs.length f] W fun e w' => MadeWith mx (.int .i64 ex) W e w') :=
    Lib.hid fun W h h' => by rw [← hmx, ← hex]; exact mul_c A C xs zs c f W h h' hl' hx hz
  have P2 : Hid (∀ W : World, IL W W.heap.size B ys → IL W W.heap.size C zs → Calls Try.prog 16 #[.slice B ys.length d, .slice C zs.length f] W fun e w' => MadeWith my (.int .i64 ey) W e w') :=
    Lib.hid fun W h h' => by rw [← hmy, ← hey]; exact mul_c B C ys zs d f W h h' (by omega) hy hz
  cases hr1 : rightB xs.length (zipL (fun x y => x + y) xs zs)
  · have e1 : ex = 2 := by rw [← hex]; unfold mulE; rw [hr1]; rfl
    subst e1
    clear h h' h'' ht1 ht2 ho hl hl' hx hy hz hmx hex hmy hey hr1
    go_enter Try.func7, Try.ntmps7
    go_wp2_with (first
      | (go_at_call 10; (with_reducible refine (awake_any _).mono ?_); rintro e w1 ⟨rfl, hb1⟩; have HB_1 := Lib.hid (below_chain (w := w) (by go_grown) hb1); have HA_1 := Lib.hid (HA_0.out.up HB_1.out); have HB2_1 := Lib.hid (HB2_0.out.up HB_1.out); have HC2_1 := Lib.hid (HC2_0.out.up HB_1.out); have o1 := (hb1.cell (p := ⟨w.heap.size, 0, none⟩) (by (try simp only [World.size_alloc]); omega)).trans (show _ = some (Value.int .i64 k) by go_cell); have p1 := (hb1.cell (p := ⟨w.heap.size, 1, none⟩) (by (try simp only [World.size_alloc]); omega)).trans (show _ = some (Value.int .i64 cut) by go_cell); have z1 : w.heap.size < w1.heap.size := (by (have := hb1.size; (try simp only [World.size_alloc] at this); omega)); clear hb1)
      | (go_at_call 15; (with_reducible refine (T1.out _ HA_1.out HB2_1.out).mono ?_); rintro e w' ⟨rfl, rfl⟩)
      | (go_at_call 15; (with_reducible refine (T2.out _ HA_1.out HC2_1.out).mono ?_); rintro e w' ⟨rfl, rfl⟩)
      | (go_at_call 14; (with_reducible refine (T3.out _).mono ?_); rintro e w2 ⟨rfl, hb⟩; have o2 := (hb.cell (p := ⟨w.heap.size, 0, none⟩) z1).trans o1; have p2 := (hb.cell (p := ⟨w.heap.size, 1, none⟩) z1).trans p1; have z2 := Nat.lt_of_lt_of_le z1 hb.size; have HA_2 := Lib.hid (HA_1.out.up hb); have HB2_2 := Lib.hid (HB2_1.out.up hb); have HC2_2 := Lib.hid (HC2_1.out.up hb); have HB_2 := Lib.hid (below_chain HB_1.out hb); clear hb)
      | (go_at_call 16; (with_reducible refine (P1.out _ HA_2.out HC2_2.out).mono ?_); rintro e w3 ⟨AX, cX, rfl, hA, hcap, hb⟩; have o3 := (hb.cell (p := ⟨w.heap.size, 0, none⟩) z2).trans o2; have p3 := (hb.cell (p := ⟨w.heap.size, 1, none⟩) z2).trans p2; have z3 := Nat.lt_of_lt_of_le z2 hb.size; have HA_3 := Lib.hid (HA_2.out.up hb); have HB2_3 := Lib.hid (HB2_2.out.up hb); have HC2_3 := Lib.hid (HC2_2.out.up hb); have HB_3 := Lib.hid (below_chain HB_2.out hb); have HX_3 := Lib.hid hA; have HCX := Lib.hid hcap; clear hA hcap hb)
      | (go_at_call 16; (with_reducible refine (P2.out _ HB2_3.out HC2_3.out).mono ?_); rintro e w4 ⟨AY, cY, rfl, hA, hcap, hb⟩; have o4 := (hb.cell (p := ⟨w.heap.size, 0, none⟩) z3).trans o3; have p4 := (hb.cell (p := ⟨w.heap.size, 1, none⟩) z3).trans p3; have z4 := Nat.lt_of_lt_of_le z3 hb.size; have HA_4 := Lib.hid (HA_3.out.up hb); have HB2_4 := Lib.hid (HB2_3.out.up hb); have HC2_4 := Lib.hid (HC2_3.out.up hb); have HX_4 := Lib.hid (HX_3.out.up hb); have HB_4 := Lib.hid (below_chain HB_3.out hb); have HY_4 := Lib.hid hA; have HCY := Lib.hid hcap; clear hA hcap hb))
    all_goals go_ret
    all_goals exact ⟨rfl, HB_4.out⟩
  cases hr2 : rightB ys.length (zipL (fun x y => x + y) ys zs)
  · have e1 : ex = 0 := by rw [← hex]; unfold mulE; rw [hr1]; rfl
    have e2 : ey = 2 := by rw [← hey]; unfold mulE; rw [hr2]; rfl
    subst e1
    subst e2
    clear h h' h'' ht1 ht2 ho hl hl' hx hy hz hmx hex hmy hey hr1 hr2
    go_enter Try.func7, Try.ntmps7
    go_wp2_with (first
      | (go_at_call 10; (with_reducible refine (awake_any _).mono ?_); rintro e w1 ⟨rfl, hb1⟩; have HB_1 := Lib.hid (below_chain (w := w) (by go_grown) hb1); have HA_1 := Lib.hid (HA_0.out.up HB_1.out); have HB2_1 := Lib.hid (HB2_0.out.up HB_1.out); have HC2_1 := Lib.hid (HC2_0.out.up HB_1.out); have o1 := (hb1.cell (p := ⟨w.heap.size, 0, none⟩) (by (try simp only [World.size_alloc]); omega)).trans (show _ = some (Value.int .i64 k) by go_cell); have p1 := (hb1.cell (p := ⟨w.heap.size, 1, none⟩) (by (try simp only [World.size_alloc]); omega)).trans (show _ = some (Value.int .i64 cut) by go_cell); have z1 : w.heap.size < w1.heap.size := (by (have := hb1.size; (try simp only [World.size_alloc] at this); omega)); clear hb1)
      | (go_at_call 15; (with_reducible refine (T1.out _ HA_1.out HB2_1.out).mono ?_); rintro e w' ⟨rfl, rfl⟩)
      | (go_at_call 15; (with_reducible refine (T2.out _ HA_1.out HC2_1.out).mono ?_); rintro e w' ⟨rfl, rfl⟩)
      | (go_at_call 14; (with_reducible refine (T3.out _).mono ?_); rintro e w2 ⟨rfl, hb⟩; have o2 := (hb.cell (p := ⟨w.heap.size, 0, none⟩) z1).trans o1; have p2 := (hb.cell (p := ⟨w.heap.size, 1, none⟩) z1).trans p1; have z2 := Nat.lt_of_lt_of_le z1 hb.size; have HA_2 := Lib.hid (HA_1.out.up hb); have HB2_2 := Lib.hid (HB2_1.out.up hb); have HC2_2 := Lib.hid (HC2_1.out.up hb); have HB_2 := Lib.hid (below_chain HB_1.out hb); clear hb)
      | (go_at_call 16; (with_reducible refine (P1.out _ HA_2.out HC2_2.out).mono ?_); rintro e w3 ⟨AX, cX, rfl, hA, hcap, hb⟩; have o3 := (hb.cell (p := ⟨w.heap.size, 0, none⟩) z2).trans o2; have p3 := (hb.cell (p := ⟨w.heap.size, 1, none⟩) z2).trans p2; have z3 := Nat.lt_of_lt_of_le z2 hb.size; have HA_3 := Lib.hid (HA_2.out.up hb); have HB2_3 := Lib.hid (HB2_2.out.up hb); have HC2_3 := Lib.hid (HC2_2.out.up hb); have HB_3 := Lib.hid (below_chain HB_2.out hb); have HX_3 := Lib.hid hA; have HCX := Lib.hid hcap; clear hA hcap hb)
      | (go_at_call 16; (with_reducible refine (P2.out _ HB2_3.out HC2_3.out).mono ?_); rintro e w4 ⟨AY, cY, rfl, hA, hcap, hb⟩; have o4 := (hb.cell (p := ⟨w.heap.size, 0, none⟩) z3).trans o3; have p4 := (hb.cell (p := ⟨w.heap.size, 1, none⟩) z3).trans p3; have z4 := Nat.lt_of_lt_of_le z3 hb.size; have HA_4 := Lib.hid (HA_3.out.up hb); have HB2_4 := Lib.hid (HB2_3.out.up hb); have HC2_4 := Lib.hid (HC2_3.out.up hb); have HX_4 := Lib.hid (HX_3.out.up hb); have HB_4 := Lib.hid (below_chain HB_3.out hb); have HY_4 := Lib.hid hA; have HCY := Lib.hid hcap; clear hA hcap hb))
    all_goals go_ret
    all_goals exact ⟨rfl, HB_4.out⟩
  have e1 : ex = 0 := by rw [← hex]; unfold mulE; rw [hr1]; rfl
  have e2 : ey = 0 := by rw [← hey]; unfold mulE; rw [hr2]; rfl
  have e3 : mx = zipL (fun x y => x + y) xs zs := by rw [← hmx]; unfold mulZ; rw [hr1]; rfl
  have e4 : my = zipL (fun x y => x + y) ys zs := by rw [← hmy]; unfold mulZ; rw [hr2]; rfl
  have hmxl : mx.length = xs.length := by rw [e3, zipL_length]
  have hmyl : my.length = ys.length := by rw [e4, zipL_length]
  have hX : Lim 60 mx := by
    rw [e3]
    refine lim_zip h6 fun j hj => ?_
    have h1 := hx.2 j hj
    have h2 := hz.2 j (by omega)
    have h3 := (right_zip hl' hx hz).1 hr1 j hj
    omega
  have hY : Lim 60 my := by
    rw [e4]
    refine lim_zip hy.1 fun j hj => ?_
    have h1 := hy.2 j hj
    have h2 := hz.2 j (by omega)
    have h3 := (right_zip (show ys.length = zs.length by omega) hy hz).1 hr2 j hj
    omega
  obtain ⟨r, hcr⟩ : ∃ r, cmpL k cut xs ys = r := ⟨_, rfl⟩
  obtain ⟨v, hcv⟩ : ∃ r, cmpL k cut mx xs = r := ⟨_, rfl⟩
  have hkeep : cmpL k cut mx my = r := by rw [e3, e4, cmp_add hl hl', hcr]
  have hv0 : 0 ≤ v := by rw [← hcv, e3]; exact cmp_multiple hl' (lim_mem hz)
  have hdv : divB xs mx = true := by
    rw [e3]
    refine (divB_yes fun j hj => ?_).symm
    rw [zipL_getD hj]
    have h2 := hz.2 j (by omega)
    omega
  subst e1
  subst e2
  have M1 : Hid (∀ (W : World) (X Y : Option Addr) (p q : Nat), mx.length ≤ p → my.length ≤ q → IL W W.heap.size X mx → IL W W.heap.size Y my → Calls Try.prog 29 #[.agg #[.int .i64 k, .int .i64 cut], .slice X mx.length p, .slice Y my.length q] W fun e w' => e = .returned (.int .i64 r) ∧ Below W.heap.size W w') :=
    Lib.hid fun W X Y p q hp hq h h' => by rw [← hkeep]; exact cmp_c _ k cut 60 X Y mx my p q W h h' (by omega) hX hY (by omega) (by omega) rfl (by rw [hmxl]; exact ho) hp hq
  have M2 : Hid (∀ W : World, IL W W.heap.size A xs → IL W W.heap.size B ys → Calls Try.prog 29 #[.agg #[.int .i64 k, .int .i64 cut], .slice A xs.length c, .slice B ys.length d] W fun e w' => e = .returned (.int .i64 r) ∧ Below W.heap.size W w') :=
    Lib.hid fun W h h' => by rw [← hcr]; exact cmp_c _ k cut 60 A B xs ys c d W h h' hl hx hy (by omega) (by omega) rfl ho hc hd
  have M3 : Hid (∀ (W : World) (X : Option Addr) (p : Nat), mx.length ≤ p → IL W W.heap.size X mx → IL W W.heap.size A xs → Calls Try.prog 29 #[.agg #[.int .i64 k, .int .i64 cut], .slice X mx.length p, .slice A xs.length c] W fun e w' => e = .returned (.int .i64 v) ∧ Below W.heap.size W w') :=
    Lib.hid fun W X p hp h h' => by rw [← hcv]; exact cmp_c _ k cut 60 X A mx xs p c W h h' hmxl hX hx (by omega) (by omega) rfl (by rw [hmxl]; exact ho) hp hc
  have M4 : Hid (∀ (W : World) (X : Option Addr) (p : Nat), IL W W.heap.size A xs → IL W W.heap.size X mx → Calls Try.prog 21 #[.slice A xs.length c, .slice X mx.length p] W fun e w' => e = .returned (.bool true) ∧ W = w') :=
    Lib.hid fun W X p h h' => by rw [← hdv]; exact divides_any A X xs mx c p W h h' hmxl.symm h6
  clear h h' h'' ht1 ht2 ho hl hl' hx hy hz hmx hex hmy hey hr1 hr2 e3 e4 hmxl hmyl hX hY hcr hcv hkeep hdv
  go_enter Try.func7, Try.ntmps7
  go_wp2_with (first
      | (go_at_call 10; (with_reducible refine (awake_any _).mono ?_); rintro e w1 ⟨rfl, hb1⟩; have HB_1 := Lib.hid (below_chain (w := w) (by go_grown) hb1); have HA_1 := Lib.hid (HA_0.out.up HB_1.out); have HB2_1 := Lib.hid (HB2_0.out.up HB_1.out); have HC2_1 := Lib.hid (HC2_0.out.up HB_1.out); have o1 := (hb1.cell (p := ⟨w.heap.size, 0, none⟩) (by (try simp only [World.size_alloc]); omega)).trans (show _ = some (Value.int .i64 k) by go_cell); have p1 := (hb1.cell (p := ⟨w.heap.size, 1, none⟩) (by (try simp only [World.size_alloc]); omega)).trans (show _ = some (Value.int .i64 cut) by go_cell); have z1 : w.heap.size < w1.heap.size := (by (have := hb1.size; (try simp only [World.size_alloc] at this); omega)); clear hb1)
      | (go_at_call 15; (with_reducible refine (T1.out _ HA_1.out HB2_1.out).mono ?_); rintro e w' ⟨rfl, rfl⟩)
      | (go_at_call 15; (with_reducible refine (T2.out _ HA_1.out HC2_1.out).mono ?_); rintro e w' ⟨rfl, rfl⟩)
      | (go_at_call 14; (with_reducible refine (T3.out _).mono ?_); rintro e w2 ⟨rfl, hb⟩; have o2 := (hb.cell (p := ⟨w.heap.size, 0, none⟩) z1).trans o1; have p2 := (hb.cell (p := ⟨w.heap.size, 1, none⟩) z1).trans p1; have z2 := Nat.lt_of_lt_of_le z1 hb.size; have HA_2 := Lib.hid (HA_1.out.up hb); have HB2_2 := Lib.hid (HB2_1.out.up hb); have HC2_2 := Lib.hid (HC2_1.out.up hb); have HB_2 := Lib.hid (below_chain HB_1.out hb); clear hb)
      | (go_at_call 16; (with_reducible refine (P1.out _ HA_2.out HC2_2.out).mono ?_); rintro e w3 ⟨AX, cX, rfl, hA, hcap, hb⟩; have o3 := (hb.cell (p := ⟨w.heap.size, 0, none⟩) z2).trans o2; have p3 := (hb.cell (p := ⟨w.heap.size, 1, none⟩) z2).trans p2; have z3 := Nat.lt_of_lt_of_le z2 hb.size; have HA_3 := Lib.hid (HA_2.out.up hb); have HB2_3 := Lib.hid (HB2_2.out.up hb); have HC2_3 := Lib.hid (HC2_2.out.up hb); have HB_3 := Lib.hid (below_chain HB_2.out hb); have HX_3 := Lib.hid hA; have HCX := Lib.hid hcap; clear hA hcap hb)
      | (go_at_call 16; (with_reducible refine (P2.out _ HB2_3.out HC2_3.out).mono ?_); rintro e w4 ⟨AY, cY, rfl, hA, hcap, hb⟩; have o4 := (hb.cell (p := ⟨w.heap.size, 0, none⟩) z3).trans o3; have p4 := (hb.cell (p := ⟨w.heap.size, 1, none⟩) z3).trans p3; have z4 := Nat.lt_of_lt_of_le z3 hb.size; have HA_4 := Lib.hid (HA_3.out.up hb); have HB2_4 := Lib.hid (HB2_3.out.up hb); have HC2_4 := Lib.hid (HC2_3.out.up hb); have HX_4 := Lib.hid (HX_3.out.up hb); have HB_4 := Lib.hid (below_chain HB_3.out hb); have HY_4 := Lib.hid hA; have HCY := Lib.hid hcap; clear hA hcap hb))
  have hbw := Below.refl w4.heap.size w4
  go_region_held3 (fun w' => Below w4.heap.size w4 w' ∧ w.heap.size < w'.heap.size ∧ w'.cell? ⟨w.heap.size, 0, none⟩ = some (.int .i64 k) ∧ w'.cell? ⟨w.heap.size, 1, none⟩ = some (.int .i64 cut))
    (first
      | (go_split_ands; refine ⟨?_, ?_, ?_, ?_⟩; (first | assumption | exact Below.drew (by assumption)); (first | assumption | (simp; done)); assumption; assumption)
      | (go_split_ands; refine ⟨below_chain ?_ hb2, Nat.lt_of_lt_of_le ?_ hb2.size, (hb2.cell (p := ⟨w.heap.size, 0, none⟩) ?_).trans ?_, (hb2.cell (p := ⟨w.heap.size, 1, none⟩) ?_).trans ?_⟩ <;> assumption))
    (first
      | (go_at_call 29; (with_reducible refine (M1.out _ _ _ _ _ HCX.out HCY.out ?_ ?_).mono ?_); (go_split_ands; exact HX_4.out.up (by assumption)); (go_split_ands; exact HY_4.out.up (by assumption)); rintro e w2 ⟨rfl, hb2⟩)
      | (go_at_call 29; (with_reducible refine (M2.out _ ?_ ?_).mono ?_); (go_split_ands; exact HA_4.out.up (by assumption)); (go_split_ands; exact HB2_4.out.up (by assumption)); rintro e w2 ⟨rfl, hb2⟩)
      | (go_at_call 29; (with_reducible refine (M3.out _ _ _ HCX.out ?_ ?_).mono ?_); (go_split_ands; exact HX_4.out.up (by assumption)); (go_split_ands; exact HA_4.out.up (by assumption)); rintro e w2 ⟨rfl, hb2⟩)
      | (go_at_call 21; (with_reducible refine (M4.out _ _ _ ?_ ?_).mono ?_); (go_split_ands; exact HA_4.out.up (by assumption)); (go_split_ands; exact HX_4.out.up (by assumption)); rintro e w' ⟨rfl, rfl⟩))
  all_goals go_wp2
  all_goals go_ret
  all_goals exact ⟨rfl, below_chain HB_4.out (by go_split_ands; assumption)⟩

end Go.Proofs.Ytflobccekfgiaaa
