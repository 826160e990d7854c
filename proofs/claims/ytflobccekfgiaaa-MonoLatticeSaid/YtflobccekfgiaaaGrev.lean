/- Contracts: by degree, grevLex. -/
import Derived.Test.YtflobccekfgiaaaTwo
namespace Go.Proofs.Ytflobccekfgiaaa
open Go.RowKit

theorem Lim.deg {m : Int} {xs : List Int} (h : Lim m xs) (hm : 0 ≤ m) (hm2 : m ≤ 120) : 0 ≤ degL xs ∧ degL xs ≤ 720 := by
  have := deg_lim' hm hm2 h xs.length (Nat.le_refl _)
  rwa [List.take_of_length_le (Nat.le_refl _)] at this

set_option maxHeartbeats 400000 in
theorem bydeg_any (m : Int) (A B : Option Addr) (xs ys : List Int) (c d : Nat) (w : World) (h : IL w w.heap.size A xs) (h' : IL w w.heap.size B ys) (hx : Lim m xs) (hy : Lim m ys) (hm0 : 0 ≤ m) (hm : m ≤ 120) :
    Calls Try.prog 39 #[.slice A xs.length c, .slice B ys.length d] w fun e w' => e = .returned (.int .i64 (sg (degL xs - degL ys))) ∧ w = w' := by
  have hdx := hx.deg hm0 hm
  have hdy := hy.deg hm0 hm
  have H := Lib.hid h; clear h
  have H' := Lib.hid h'; clear h'
  have HX := Lib.hid hx; clear hx
  have HY := Lib.hid hy; clear hy
  go_enter Try.func39, Try.ntmps39
  go_wp2_with (first
    | (go_at_call 27; (with_reducible refine (deg_any _ xs _ _ _ H.out HX.out hm0 hm).mono ?_); rintro e w' ⟨rfl, rfl⟩)
    | (go_at_call 27; (with_reducible refine (deg_any _ ys _ _ _ H'.out HY.out hm0 hm).mono ?_); rintro e w' ⟨rfl, rfl⟩)
    | (go_at_call 47; (with_reducible refine (sign_any _ _).mono ?_); rintro e w' ⟨rfl, rfl⟩))
  go_ret
  exact ⟨rfl, rfl⟩

/-- By degree, then by the last place where they differ, the other way round. -/
def grevL (xs ys : List Int) : Int := if sg (degL xs - degL ys) = 0 then lexL ys.reverse xs.reverse else sg (degL xs - degL ys)
theorem rev_take {xs : List Int} {k : Nat} (h : k < xs.length) : (xs.take (k + 1)).reverse = xs.getD k 0 :: (xs.take k).reverse := by
  rw [take_snoc h]; simp
theorem rev_next {xs ys : List Int} {k : Nat} (h : k < xs.length) (h' : k < ys.length) (e : xs.getD k 0 = ys.getD k 0) : lexL (ys.take (k + 1)).reverse (xs.take (k + 1)).reverse = lexL (ys.take k).reverse (xs.take k).reverse := by
  rw [rev_take h, rev_take h']; simp only [lexL]; rw [if_pos e.symm]
theorem rev_here {xs ys : List Int} {k : Nat} (h : k < xs.length) (h' : k < ys.length) (e : xs.getD k 0 ≠ ys.getD k 0) : lexL (ys.take (k + 1)).reverse (xs.take (k + 1)).reverse = sg (ys.getD k 0 - xs.getD k 0) := by
  rw [rev_take h, rev_take h']; simp only [lexL]; rw [if_neg (Ne.symm e)]
theorem rev_start {xs ys : List Int} (h : xs.length = ys.length) : lexL ys.reverse xs.reverse = lexL (ys.take xs.length).reverse (xs.take xs.length).reverse := by
  rw [List.take_of_length_le (by omega), List.take_of_length_le (by omega)]
theorem sg_ne {n : Int} (h : n ≠ 0) : sg n ≠ 0 := by unfold sg; split <;> (try split) <;> omega
theorem sg_zero {n : Int} (h : n = 0) : sg n = 0 := by subst h; rfl

set_option maxHeartbeats 400000 in
theorem grevlex_any (m : Int) (A B : Option Addr) (xs ys : List Int) (c d : Nat) (w : World) (h : IL w w.heap.size A xs) (h' : IL w w.heap.size B ys) (hl : xs.length = ys.length) (hx : Lim m xs) (hy : Lim m ys) (hm0 : 0 ≤ m) (hm : m ≤ 120) :
    Calls Try.prog 41 #[.slice A xs.length c, .slice B ys.length d] w fun e w' => e = .returned (.int .i64 (grevL xs ys)) ∧ ∃ n, w' = w.drewN n := by
  have H := Lib.hid h; clear h
  have H' := Lib.hid h'; clear h'
  have HL := Lib.hid hl; clear hl
  have h6 := hx.1
  have HX := Lib.hid hx; clear hx
  have HY := Lib.hid hy; clear hy
  obtain ⟨g, hg⟩ : ∃ g, sg (degL xs - degL ys) = g := ⟨_, rfl⟩
  have HG := Lib.hid hg
  have hcall := bydeg_any m A B xs ys c d w H.out H'.out HX.out HY.out hm0 hm
  rw [hg] at hcall
  have HC : Hid _ := Lib.hid hcall
  clear hg hcall
  by_cases hg0 : g = 0
  · subst hg0
    go_enter Try.func41, Try.ntmps41
    go_wp2_with (go_at_call 39; (with_reducible refine HC.out.mono ?_); rintro e w' ⟨rfl, rfl⟩)
    go_loopw [6] (fun i wr => ∃ k n : Nat, k ≤ xs.length ∧ i = .int .i64 ((k : Int) - 1) ∧ wr = w.drewN n ∧ lexL ys.reverse xs.reverse = lexL (ys.take k).reverse (xs.take k).reverse) (fun i _ => (intOf i + 1).toNat)
    case atStart => exact ⟨xs.length, 0, Nat.le_refl _, rfl, rfl, rev_start HL.out⟩
    case round =>
      obtain ⟨k, n, hk, rfl, rfl, hall⟩ := hrel
      have HA := Lib.hid hall; clear hall
      by_cases hlt : 0 < k
      · obtain ⟨j, hj⟩ : ∃ j, k = j + 1 := ⟨k - 1, by omega⟩
        subst hj
        have hlt : j < xs.length := by omega
        have hlt' : j < ys.length := by have := HL.out; omega
        have hidx : ((j + 1 : Nat) : Int) - 1 = (j : Int) := by omega
        rw [hidx]
        clear hidx
        obtain ⟨ad, rfl, _, hc⟩ := H.out (by omega)
        obtain ⟨bd, rfl, _, hc'⟩ := H'.out (by omega)
        have hcell := hc j hlt
        have hcell' := hc' j hlt'
        have hx1 := HX.out.2 j hlt
        have hy1 := HY.out.2 j hlt'
        have HN := Lib.hid (fun e => rev_next (xs := xs) (ys := ys) hlt hlt' e)
        have HH := Lib.hid (fun e => rev_here (xs := xs) (ys := ys) hlt hlt' e)
        obtain ⟨x, hx⟩ : ∃ x, xs.getD j 0 = x := ⟨_, rfl⟩
        obtain ⟨y, hy⟩ : ∃ y, ys.getD j 0 = y := ⟨_, rfl⟩
        rw [hx] at hcell hx1
        rw [hy] at hcell' hy1
        have HXE := Lib.hid hx
        have HYE := Lib.hid hy
        clear hc hx hc' hy
        by_cases hxy : x = y
        · have HXY := Lib.hid hxy
          have hb2 : (x != y) = false := by rw [hxy]; simp
          clear hxy
          go_wp2
          go_quiet (fail)
          go_wp2
          go_roundw
          case rel => exact ⟨j, _, by omega, rfl, rfl, by rw [HA.out]; exact HN.out (by rw [HXE.out, HYE.out]; exact HXY.out)⟩
          case measure => simp [intOf] <;> omega
        · have hb2 : (x != y) = true := by simp [hxy]
          have HXY := Lib.hid hxy
          clear hxy
          go_wp2
          go_quiet (fail)
          go_wp2
          have hw : IntKind.i64.wrap (y - x) = y - x := IntWalk.i64_in _ (by omega)
          go_quiet ((go_at_call 47; first | exact quiet_left (sign_any _ _) | exact quiet_add_left (sign_any _ _)))
          clear hw
          go_wp2
          go_ret
          refine ⟨ret_int ?_, ?_⟩
          · unfold grevL; rw [if_pos HG.out, HA.out, HH.out (by rw [HXE.out, HYE.out]; exact HXY.out), HXE.out, HYE.out]
          · simp only [World.drewN_drewN]; exact ⟨_, rfl⟩
      · obtain rfl : k = 0 := by omega
        go_wp2
        go_ret
        exact ⟨ret_int (by unfold grevL; rw [if_pos HG.out, HA.out]; rfl), _, rfl⟩
  · have hb : (g != 0) = true := by simp [hg0]
    have HG0 := Lib.hid hg0; clear hg0
    go_enter Try.func41, Try.ntmps41
    go_wp2_with (go_at_call 39; (with_reducible refine HC.out.mono ?_); rintro e w' ⟨rfl, rfl⟩)
    go_ret
    exact ⟨ret_int (by unfold grevL; rw [HG.out, if_neg HG0.out]), 0, rfl⟩

set_option maxHeartbeats 400000 in
theorem grev_any (m : Int) (A B : Option Addr) (xs ys : List Int) (c d : Nat) (w : World) (h : IL w w.heap.size A xs) (h' : IL w w.heap.size B ys) (hl : xs.length = ys.length) (hx : Lim m xs) (hy : Lim m ys) (hm0 : 0 ≤ m) (hm : m ≤ 120) :
    Calls Try.prog 46 #[.slice A xs.length c, .slice B ys.length d] w fun e w' => e = .returned (.int .i64 (grevL xs ys)) ∧ ∃ n, w' = w.drewN n := by
  have hdx := hx.deg hm0 hm
  have hdy := hy.deg hm0 hm
  have HDX := Lib.hid (refdeg_any A xs c m w h hx hm0 hm)
  have HDY := Lib.hid (refdeg_any B ys d m w h' hy hm0 hm)
  have H := Lib.hid h; clear h
  have H' := Lib.hid h'; clear h'
  have HL := Lib.hid hl; clear hl
  have h6 := hx.1
  have HX := Lib.hid hx; clear hx
  have HY := Lib.hid hy; clear hy
  obtain ⟨p, hp⟩ : ∃ p, degL xs = p := ⟨_, rfl⟩
  obtain ⟨q, hq⟩ : ∃ q, degL ys = q := ⟨_, rfl⟩
  rw [hp] at HDX hdx
  rw [hq] at HDY hdy
  have HP := Lib.hid hp
  have HQ := Lib.hid hq
  clear hp hq
  by_cases hg0 : p = q
  · have hg1 : (p != q) = false := by simp [hg0]
    have HG : Hid (sg (degL xs - degL ys) = 0) := Lib.hid (by rw [HP.out, HQ.out]; exact sg_zero (by omega))
    clear hg0
    go_enter Try.func46, Try.ntmps46
    go_wp2_with (first
      | (go_at_call 28; (with_reducible refine HDX.out.mono ?_); rintro e w' ⟨rfl, rfl⟩)
      | (go_at_call 28; (with_reducible refine HDY.out.mono ?_); rintro e w' ⟨rfl, rfl⟩))
    go_loopw [5] (fun i wr => ∃ k n : Nat, k ≤ xs.length ∧ i = .int .i64 ((k : Int) - 1) ∧ wr = w.drewN n ∧ lexL ys.reverse xs.reverse = lexL (ys.take k).reverse (xs.take k).reverse) (fun i _ => (intOf i + 1).toNat)
    case atStart => exact ⟨xs.length, 0, Nat.le_refl _, rfl, rfl, rev_start HL.out⟩
    case round =>
      obtain ⟨k, n, hk, rfl, rfl, hall⟩ := hrel
      have HA := Lib.hid hall; clear hall
      by_cases hlt : 0 < k
      · obtain ⟨j, hj⟩ : ∃ j, k = j + 1 := ⟨k - 1, by omega⟩
        subst hj
        have hlt : j < xs.length := by omega
        have hlt' : j < ys.length := by have := HL.out; omega
        have hidx : ((j + 1 : Nat) : Int) - 1 = (j : Int) := by omega
        rw [hidx]
        clear hidx
        obtain ⟨ad, rfl, _, hc⟩ := H.out (by omega)
        obtain ⟨bd, rfl, _, hc'⟩ := H'.out (by omega)
        have hcell := hc j hlt
        have hcell' := hc' j hlt'
        have hx1 := HX.out.2 j hlt
        have hy1 := HY.out.2 j hlt'
        have HN := Lib.hid (fun e => rev_next (xs := xs) (ys := ys) hlt hlt' e)
        have HH := Lib.hid (fun e => rev_here (xs := xs) (ys := ys) hlt hlt' e)
        obtain ⟨x, hx⟩ : ∃ x, xs.getD j 0 = x := ⟨_, rfl⟩
        obtain ⟨y, hy⟩ : ∃ y, ys.getD j 0 = y := ⟨_, rfl⟩
        rw [hx] at hcell hx1
        rw [hy] at hcell' hy1
        have HXE := Lib.hid hx
        have HYE := Lib.hid hy
        clear hc hx hc' hy
        by_cases hxy : x = y
        · have HXY := Lib.hid hxy
          have hb2 : (x != y) = false := by rw [hxy]; simp
          clear hxy
          go_wp2
          go_quiet (fail)
          go_wp2
          go_roundw
          case rel => exact ⟨j, _, by omega, rfl, rfl, by rw [HA.out]; exact HN.out (by rw [HXE.out, HYE.out]; exact HXY.out)⟩
          case measure => simp [intOf] <;> omega
        · have hb2 : (x != y) = true := by simp [hxy]
          have HXY := Lib.hid hxy
          clear hxy
          go_wp2
          go_quiet (fail)
          go_wp2
          have hw : IntKind.i64.wrap (y - x) = y - x := IntWalk.i64_in _ (by omega)
          go_quiet ((go_at_call 45; first | exact quiet_left (refsign_any _ _) | exact quiet_add_left (refsign_any _ _)))
          clear hw
          go_wp2
          go_ret
          refine ⟨ret_int ?_, ?_⟩
          · unfold grevL; rw [if_pos HG.out, HA.out, HH.out (by rw [HXE.out, HYE.out]; exact HXY.out), HXE.out, HYE.out]
          · simp only [World.drewN_drewN]; exact ⟨_, rfl⟩
      · obtain rfl : k = 0 := by omega
        go_wp2
        go_ret
        exact ⟨ret_int (by unfold grevL; rw [if_pos HG.out, HA.out]; rfl), _, rfl⟩
  · have hb : (p != q) = true := by simp [hg0]
    have HG0 := Lib.hid hg0; clear hg0
    go_enter Try.func46, Try.ntmps46
    go_wp2_with (first
      | (go_at_call 28; (with_reducible refine HDX.out.mono ?_); rintro e w' ⟨rfl, rfl⟩)
      | (go_at_call 28; (with_reducible refine HDY.out.mono ?_); rintro e w' ⟨rfl, rfl⟩)
      | (go_at_call 45; (with_reducible refine (refsign_any _ _).mono ?_); rintro e w' ⟨rfl, rfl⟩))
    go_ret
    exact ⟨ret_int (by unfold grevL; rw [HP.out, HQ.out, if_neg (sg_ne (by have := HG0.out; omega))]), 0, rfl⟩
end Go.Proofs.Ytflobccekfgiaaa
