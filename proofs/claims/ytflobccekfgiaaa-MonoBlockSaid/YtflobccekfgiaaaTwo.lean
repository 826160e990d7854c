/- Contracts: what looks at two lists: divides, same, lex. -/
import Derived.Test.YtflobccekfgiaaaSmall
namespace Go.Proofs.Ytflobccekfgiaaa
open Go.RowKit

def divB (xs ys : List Int) : Bool := decide (∀ k, k < xs.length → xs.getD k 0 ≤ ys.getD k 0)
theorem divB_no {xs ys : List Int} (k : Nat) (hk : k < xs.length) (h : ys.getD k 0 < xs.getD k 0) : false = divB xs ys := by
  symm; unfold divB; exact decide_eq_false fun h2 => by have := h2 k hk; omega
theorem divB_yes {xs ys : List Int} (h2 : ∀ k, k < xs.length → xs.getD k 0 ≤ ys.getD k 0) : true = divB xs ys := by
  symm; unfold divB; exact decide_eq_true h2

set_option maxHeartbeats 400000 in
theorem divides_any (A B : Option Addr) (xs ys : List Int) (c d : Nat) (w : World) (h : IL w w.heap.size A xs) (h' : IL w w.heap.size B ys) (hl : xs.length = ys.length) (h6 : xs.length ≤ 6) :
    Calls Try.prog 21 #[.slice A xs.length c, .slice B ys.length d] w fun e w' => e = .returned (.bool (divB xs ys)) ∧ w = w' := by
  have H := Lib.hid h; clear h
  have H' := Lib.hid h'; clear h'
  have HL := Lib.hid hl; clear hl
  go_enter Try.func21, Try.ntmps21
  go_wp2
  go_loop [9] (fun i => ∃ k : Nat, k ≤ xs.length ∧ i = .int .i64 k ∧ ∀ j, j < k → xs.getD j 0 ≤ ys.getD j 0) (fun i => xs.length - (intOf i).toNat)
  case atStart => exact ⟨0, Nat.zero_le _, rfl, fun j hj => absurd hj (by omega)⟩
  case round =>
    obtain ⟨k, hk, rfl, hall⟩ := hrel
    have HA := Lib.hid hall; clear hall
    by_cases hlt : k < xs.length
    · have hlt' : k < ys.length := by have := HL.out; omega
      obtain ⟨ad, rfl, _, hc⟩ := H.out (by omega)
      obtain ⟨bd, rfl, _, hc'⟩ := H'.out (by omega)
      have hcell := hc k hlt
      have hcell' := hc' k hlt'
      obtain ⟨x, hx⟩ : ∃ x, xs.getD k 0 = x := ⟨_, rfl⟩
      obtain ⟨y, hy⟩ : ∃ y, ys.getD k 0 = y := ⟨_, rfl⟩
      rw [hx] at hcell
      rw [hy] at hcell'
      have HX := Lib.hid hx
      have HY := Lib.hid hy
      clear hc hx hc' hy
      by_cases hxy : x ≤ y
      · go_wp2
        go_round
        case rel => exact ⟨k + 1, by omega, by go_num, fun j hj => by
          by_cases e : j = k
          · rw [e, HX.out, HY.out]; exact hxy
          · exact HA.out j (by omega)⟩
        case measure => simp [intOf]; omega
      · go_wp2
        go_ret
        exact ⟨ret_bool (divB_no k hlt (by rw [HX.out, HY.out]; omega)), rfl⟩
    · go_wp2
      go_ret
      exact ⟨ret_bool (divB_yes fun j hj => HA.out j (by omega)), rfl⟩

set_option maxHeartbeats 400000 in
theorem refdivides_any (A B : Option Addr) (xs ys : List Int) (c d : Nat) (w : World) (h : IL w w.heap.size A xs) (h' : IL w w.heap.size B ys) (hl : xs.length = ys.length) (h6 : xs.length ≤ 6) :
    Calls Try.prog 22 #[.slice A xs.length c, .slice B ys.length d] w fun e w' => e = .returned (.bool (divB xs ys)) ∧ ∃ n, w' = w.drewN n := by
  have H := Lib.hid h; clear h
  have H' := Lib.hid h'; clear h'
  have HL := Lib.hid hl; clear hl
  go_enter Try.func22, Try.ntmps22
  go_wp2
  go_loopw [5] (fun i wr => ∃ (k n : Nat), k ≤ xs.length ∧ i = .int .i64 k ∧ wr = w.drewN n ∧ ∀ j, j < k → xs.getD j 0 ≤ ys.getD j 0) (fun i _ => xs.length - (intOf i).toNat)
  case atStart => exact ⟨0, 0, Nat.zero_le _, rfl, rfl, fun j hj => absurd hj (by omega)⟩
  case round =>
    obtain ⟨k, n, hk, rfl, rfl, hall⟩ := hrel
    have HA := Lib.hid hall; clear hall
    by_cases hlt : k < xs.length
    · have hlt' : k < ys.length := by have := HL.out; omega
      obtain ⟨ad, rfl, _, hc⟩ := H.out (by omega)
      obtain ⟨bd, rfl, _, hc'⟩ := H'.out (by omega)
      have hcell := hc k hlt
      have hcell' := hc' k hlt'
      obtain ⟨x, hx⟩ : ∃ x, xs.getD k 0 = x := ⟨_, rfl⟩
      obtain ⟨y, hy⟩ : ∃ y, ys.getD k 0 = y := ⟨_, rfl⟩
      rw [hx] at hcell
      rw [hy] at hcell'
      have HX := Lib.hid hx
      have HY := Lib.hid hy
      clear hc hx hc' hy
      by_cases hxy : x ≤ y
      · go_wp2
        go_quiet (fail)
        go_wp2
        go_roundw
        case rel => exact ⟨k + 1, _, by omega, by go_num, rfl, fun j hj => by
          by_cases e : j = k
          · rw [e, HX.out, HY.out]; exact hxy
          · exact HA.out j (by omega)⟩
        case measure => simp [intOf]; omega
      · go_wp2
        go_quiet (fail)
        go_wp2
        go_ret
        exact ⟨ret_bool (divB_no k hlt (by rw [HX.out, HY.out]; omega)), _, World.drewN_drewN _ _ _⟩
    · go_wp2
      go_ret
      exact ⟨ret_bool (divB_yes fun j hj => HA.out j (by omega)), _, rfl⟩

def sameB (xs ys : List Int) : Bool := decide (xs = ys)
theorem sameB_no {xs ys : List Int} (k : Nat) (h : xs.getD k 0 ≠ ys.getD k 0) : false = sameB xs ys := by
  symm; unfold sameB; exact decide_eq_false fun h2 => h (by rw [h2])
theorem sameB_len {xs ys : List Int} (h : xs.length ≠ ys.length) : false = sameB xs ys := by
  symm; unfold sameB; exact decide_eq_false fun h2 => h (by rw [h2])
theorem ext_getD {xs ys : List Int} (hl : xs.length = ys.length) (h2 : ∀ k, k < xs.length → xs.getD k 0 = ys.getD k 0) : xs = ys := by
  apply List.ext_getElem hl
  intro k h h'
  have := h2 k h
  rwa [getD_of_lt h, getD_of_lt h'] at this
theorem sameB_yes {xs ys : List Int} (hl : xs.length = ys.length) (h2 : ∀ k, k < xs.length → xs.getD k 0 = ys.getD k 0) : true = sameB xs ys := by
  symm; unfold sameB; exact decide_eq_true (ext_getD hl h2)

set_option maxHeartbeats 400000 in
theorem same_any (A B : Option Addr) (xs ys : List Int) (c d : Nat) (w : World) (h : IL w w.heap.size A xs) (h' : IL w w.heap.size B ys) (hxl : xs.length ≤ 9223372036854775807) (hyl : ys.length ≤ 9223372036854775807) :
    Calls Try.prog 20 #[.slice A xs.length c, .slice B ys.length d] w fun e w' => e = .returned (.bool (sameB xs ys)) ∧ ∃ n, w' = w.drewN n := by
  by_cases hl : xs.length = ys.length
  · have H := Lib.hid h; clear h
    have H' := Lib.hid h'; clear h'
    have HL := Lib.hid hl
    have hb : (((xs.length : Int) != (ys.length : Int)) = false) := by rw [hl]; simp
    clear hl
    go_enter Try.func20, Try.ntmps20
    go_wp2
    go_loopw [5] (fun i wr => ∃ (k n : Nat), k ≤ xs.length ∧ i = .int .i64 k ∧ wr = w.drewN n ∧ ∀ j, j < k → xs.getD j 0 = ys.getD j 0) (fun i _ => xs.length - (intOf i).toNat)
    case atStart => exact ⟨0, 0, Nat.zero_le _, rfl, rfl, fun j hj => absurd hj (by omega)⟩
    case round =>
      obtain ⟨k, n, hk, rfl, rfl, hall⟩ := hrel
      have HA := Lib.hid hall; clear hall
      by_cases hlt : k < xs.length
      · have hlt' : k < ys.length := by have := HL.out; omega
        obtain ⟨ad, rfl, _, hc⟩ := H.out (by omega)
        obtain ⟨bd, rfl, _, hc'⟩ := H'.out (by omega)
        have hcell := hc k hlt
        have hcell' := hc' k hlt'
        obtain ⟨x, hx⟩ : ∃ x, xs.getD k 0 = x := ⟨_, rfl⟩
        obtain ⟨y, hy⟩ : ∃ y, ys.getD k 0 = y := ⟨_, rfl⟩
        rw [hx] at hcell
        rw [hy] at hcell'
        have HX := Lib.hid hx
        have HY := Lib.hid hy
        clear hc hx hc' hy
        by_cases hxy : x = y
        · have HXY := Lib.hid hxy
          have hb2 : (x != y) = false := by rw [hxy]; simp
          clear hxy
          go_wp2
          go_quiet (fail)
          go_wp2
          go_roundw
          case rel => exact ⟨k + 1, _, by omega, by go_num, rfl, fun j hj => by
            by_cases e : j = k
            · rw [e, HX.out, HY.out]; exact HXY.out
            · exact HA.out j (by omega)⟩
          case measure => simp [intOf]; omega
        · have hb2 : (x != y) = true := by simp [hxy]
          have HXY := Lib.hid hxy
          clear hxy
          go_wp2
          go_quiet (fail)
          go_wp2
          go_ret
          exact ⟨ret_bool (sameB_no k (by rw [HX.out, HY.out]; exact HXY.out)), _, World.drewN_drewN _ _ _⟩
      · go_wp2
        go_ret
        exact ⟨ret_bool (sameB_yes HL.out fun j hj => HA.out j (by omega)), _, rfl⟩
  · have hb : (((xs.length : Int) != (ys.length : Int)) = true) := by simp; omega
    have HL := Lib.hid hl; clear hl h h'
    go_enter Try.func20, Try.ntmps20
    go_wp2
    go_ret
    exact ⟨ret_bool (sameB_len HL.out), 0, rfl⟩

def lexL : List Int → List Int → Int
  | x :: xs, y :: ys => if x = y then lexL xs ys else sg (x - y)
  | _, _ => 0
theorem drop_at {xs : List Int} {k : Nat} (h : k < xs.length) : xs.drop k = xs.getD k 0 :: xs.drop (k + 1) := by
  rw [List.drop_eq_getElem_cons h, getD_of_lt h]
theorem lexL_next {xs ys : List Int} {k : Nat} (h : k < xs.length) (h' : k < ys.length) (e : xs.getD k 0 = ys.getD k 0) : lexL (xs.drop k) (ys.drop k) = lexL (xs.drop (k + 1)) (ys.drop (k + 1)) := by
  rw [drop_at h, drop_at h', e]; simp [lexL]
theorem lexL_here {xs ys : List Int} {k : Nat} (h : k < xs.length) (h' : k < ys.length) (e : xs.getD k 0 ≠ ys.getD k 0) : lexL (xs.drop k) (ys.drop k) = sg (xs.getD k 0 - ys.getD k 0) := by
  rw [drop_at h, drop_at h']; simp only [lexL]; rw [if_neg e]
theorem lexL_end {xs ys : List Int} {k : Nat} (h : xs.length ≤ k) : lexL (xs.drop k) (ys.drop k) = 0 := by
  rw [List.drop_eq_nil_of_le h]; simp [lexL]

set_option maxHeartbeats 400000 in
theorem lex_any (m : Int) (A B : Option Addr) (xs ys : List Int) (c d : Nat) (w : World) (h : IL w w.heap.size A xs) (h' : IL w w.heap.size B ys) (hl : xs.length = ys.length) (hx : Lim m xs) (hy : Lim m ys) (hm : m ≤ 120) :
    Calls Try.prog 36 #[.slice A xs.length c, .slice B ys.length d] w fun e w' => e = .returned (.int .i64 (lexL xs ys)) ∧ ∃ n, w' = w.drewN n := by
  have H := Lib.hid h; clear h
  have H' := Lib.hid h'; clear h'
  have HL := Lib.hid hl; clear hl
  have h6 := hx.1
  have HX := Lib.hid hx; clear hx
  have HY := Lib.hid hy; clear hy
  go_enter Try.func36, Try.ntmps36
  go_wp2
  go_loop [9] (fun i => ∃ k : Nat, k ≤ xs.length ∧ i = .int .i64 k ∧ lexL xs ys = lexL (xs.drop k) (ys.drop k)) (fun i => xs.length - (intOf i).toNat)
  case atStart => exact ⟨0, Nat.zero_le _, rfl, rfl⟩
  case round =>
    obtain ⟨k, hk, rfl, hall⟩ := hrel
    have HA := Lib.hid hall; clear hall
    by_cases hlt : k < xs.length
    · have hlt' : k < ys.length := by have := HL.out; omega
      obtain ⟨ad, rfl, _, hc⟩ := H.out (by omega)
      obtain ⟨bd, rfl, _, hc'⟩ := H'.out (by omega)
      have hcell := hc k hlt
      have hcell' := hc' k hlt'
      have hx1 := HX.out.2 k hlt
      have hy1 := HY.out.2 k hlt'
      have HN := Lib.hid (fun e => lexL_next (xs := xs) (ys := ys) hlt hlt' e)
      have HH := Lib.hid (fun e => lexL_here (xs := xs) (ys := ys) hlt hlt' e)
      obtain ⟨x, hx⟩ : ∃ x, xs.getD k 0 = x := ⟨_, rfl⟩
      obtain ⟨y, hy⟩ : ∃ y, ys.getD k 0 = y := ⟨_, rfl⟩
      rw [hx] at hcell hx1
      rw [hy] at hcell' hy1
      have HXE := Lib.hid hx
      have HYE := Lib.hid hy
      clear hc hx hc' hy
      by_cases hxy : x = y
      · have HXY := Lib.hid hxy
        have hb2 : (x != y) = false := by rw [hxy]; simp
        clear hxy
        go_wp2
        go_round
        case rel => exact ⟨k + 1, by omega, by go_num, by rw [HA.out]; exact HN.out (by rw [HXE.out, HYE.out]; exact HXY.out)⟩
        case measure => simp [intOf]; omega
      · have hb2 : (x != y) = true := by simp [hxy]
        have HXY := Lib.hid hxy
        clear hxy
        go_wp2_with (go_at_call 47; refine (sign_any _ _).mono ?_; rintro e w' ⟨rfl, rfl⟩)
        go_ret
        exact ⟨ret_int (by rw [HA.out, HH.out (by rw [HXE.out, HYE.out]; exact HXY.out), HXE.out, HYE.out]), 0, rfl⟩
    · go_wp2
      go_ret
      exact ⟨ret_int (by rw [HA.out, lexL_end (by omega)]), 0, rfl⟩

set_option maxHeartbeats 400000 in
theorem reflex_any (m : Int) (A B : Option Addr) (xs ys : List Int) (c d : Nat) (w : World) (h : IL w w.heap.size A xs) (h' : IL w w.heap.size B ys) (hl : xs.length = ys.length) (hx : Lim m xs) (hy : Lim m ys) (hm : m ≤ 120) :
    Calls Try.prog 44 #[.slice A xs.length c, .slice B ys.length d] w fun e w' => e = .returned (.int .i64 (lexL xs ys)) ∧ ∃ n, w' = w.drewN n := by
  have H := Lib.hid h; clear h
  have H' := Lib.hid h'; clear h'
  have HL := Lib.hid hl; clear hl
  have h6 := hx.1
  have HX := Lib.hid hx; clear hx
  have HY := Lib.hid hy; clear hy
  go_enter Try.func44, Try.ntmps44
  go_wp2
  go_loopw [5] (fun i wr => ∃ k n : Nat, k ≤ xs.length ∧ i = .int .i64 k ∧ wr = w.drewN n ∧ lexL xs ys = lexL (xs.drop k) (ys.drop k)) (fun i _ => xs.length - (intOf i).toNat)
  case atStart => exact ⟨0, 0, Nat.zero_le _, rfl, rfl, rfl⟩
  case round =>
    obtain ⟨k, n, hk, rfl, rfl, hall⟩ := hrel
    have HA := Lib.hid hall; clear hall
    by_cases hlt : k < xs.length
    · have hlt' : k < ys.length := by have := HL.out; omega
      obtain ⟨ad, rfl, _, hc⟩ := H.out (by omega)
      obtain ⟨bd, rfl, _, hc'⟩ := H'.out (by omega)
      have hcell := hc k hlt
      have hcell' := hc' k hlt'
      have hx1 := HX.out.2 k hlt
      have hy1 := HY.out.2 k hlt'
      have HN := Lib.hid (fun e => lexL_next (xs := xs) (ys := ys) hlt hlt' e)
      have HH := Lib.hid (fun e => lexL_here (xs := xs) (ys := ys) hlt hlt' e)
      obtain ⟨x, hx⟩ : ∃ x, xs.getD k 0 = x := ⟨_, rfl⟩
      obtain ⟨y, hy⟩ : ∃ y, ys.getD k 0 = y := ⟨_, rfl⟩
      rw [hx] at hcell hx1
      rw [hy] at hcell' hy1
      have HXE := Lib.hid hx
      have HYE := Lib.hid hy
      clear hc hx hc' hy
      by_cases hxy : x = y
      · have HXY := Lib.hid hxy
        have hb2 : (x != y) = false := by rw [hxy]; simp
        clear hxy
        go_wp2
        go_quiet (fail)
        go_wp2
        go_roundw
        case rel => exact ⟨k + 1, _, by omega, by go_num, rfl, by rw [HA.out]; exact HN.out (by rw [HXE.out, HYE.out]; exact HXY.out)⟩
        case measure => simp [intOf]; omega
      · have hb2 : (x != y) = true := by simp [hxy]
        have HXY := Lib.hid hxy
        clear hxy
        go_wp2
        go_quiet (fail)
        go_wp2
        have hw : IntKind.i64.wrap (x - y) = x - y := IntWalk.i64_in _ (by omega)
        go_quiet ((go_at_call 45; first | exact quiet_left (refsign_any _ _) | exact quiet_add_left (refsign_any _ _)))
        clear hw
        go_wp2
        go_ret
        refine ⟨ret_int ?_, ?_⟩
        · rw [HA.out, HH.out (by rw [HXE.out, HYE.out]; exact HXY.out), HXE.out, HYE.out]
        · simp only [World.drewN_drewN]; exact ⟨_, rfl⟩
    · go_wp2
      go_ret
      exact ⟨ret_int (by rw [HA.out, lexL_end (by omega)]), _, rfl⟩
end Go.Proofs.Ytflobccekfgiaaa
