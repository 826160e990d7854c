/- Contracts: the orders. -/
import Derived.Test.YtflobccekfgiaaaGrev
import Derived.Laws.EntriesVeiled
namespace Go.Proofs.Ytflobccekfgiaaa
open Go.RowKit

theorem below_of_drewN {B : Nat} {a b w : World} (h : Below B a b) (hw : ∃ n, w = b.drewN n) : Below B a w := by
  obtain ⟨n, rfl⟩ := hw
  exact below_drewN h n

def grlexL (xs ys : List Int) : Int := if sg (degL xs - degL ys) = 0 then lexL xs ys else sg (degL xs - degL ys)

set_option maxHeartbeats 400000 in
theorem cmp0_any (m : Int) (A B : Option Addr) (xs ys : List Int) (c d : Nat) (w : World) (h : IL w w.heap.size A xs) (h' : IL w w.heap.size B ys) (hl : xs.length = ys.length) (hx : Lim m xs) (hy : Lim m ys) (hm : m ≤ 120) (cut : Int) :
    Calls Try.prog 29 #[.agg #[.int .i64 0, .int .i64 cut], .slice A xs.length c, .slice B ys.length d] w fun e w' => e = .returned (.int .i64 (lexL xs ys)) ∧ Below w.heap.size w w' := by
  have H := Lib.hid h; clear h
  have H' := Lib.hid h'; clear h'
  have HL := Lib.hid hl; clear hl
  have HX := Lib.hid hx; clear hx
  have HY := Lib.hid hy; clear hy
  go_enter Try.func29, Try.ntmps29
  go_wp2_with (go_at_call 36; (with_reducible refine (lex_any m _ _ xs ys _ _ _ (H.out.up (by go_grown)) (H'.out.up (by go_grown)) HL.out HX.out HY.out hm).mono ?_); rintro e w' ⟨rfl, hw⟩; have HW := Lib.hid hw; clear hw)
  go_ret
  exact ⟨rfl, below_of_drewN (by go_grown) HW.out⟩

set_option maxHeartbeats 400000 in
theorem cmp1_any (m : Int) (A B : Option Addr) (xs ys : List Int) (c d : Nat) (w : World) (h : IL w w.heap.size A xs) (h' : IL w w.heap.size B ys) (hl : xs.length = ys.length) (hx : Lim m xs) (hy : Lim m ys) (hm0 : 0 ≤ m) (hm : m ≤ 120) (cut : Int) :
    Calls Try.prog 29 #[.agg #[.int .i64 1, .int .i64 cut], .slice A xs.length c, .slice B ys.length d] w fun e w' => e = .returned (.int .i64 (grlexL xs ys)) ∧ Below w.heap.size w w' := by
  have H := Lib.hid h; clear h
  have H' := Lib.hid h'; clear h'
  have HL := Lib.hid hl; clear hl
  have HX := Lib.hid hx; clear hx
  have HY := Lib.hid hy; clear hy
  obtain ⟨g, hg⟩ : ∃ g, sg (degL xs - degL ys) = g := ⟨_, rfl⟩
  have HG := Lib.hid hg
  have HC : Hid (∀ W : World, IL W W.heap.size A xs → IL W W.heap.size B ys → Calls Try.prog 39 #[.slice A xs.length c, .slice B ys.length d] W fun e w' => e = .returned (.int .i64 g) ∧ W = w') :=
    Lib.hid fun W h h' => by rw [← hg]; exact bydeg_any m A B xs ys c d W h h' HX.out HY.out hm0 hm
  clear hg
  by_cases hg0 : g = 0
  · subst hg0
    go_enter Try.func29, Try.ntmps29
    go_wp2_with (first
      | (go_at_call 39; (with_reducible refine (HC.out _ (H.out.up (by go_grown)) (H'.out.up (by go_grown))).mono ?_); rintro e w' ⟨rfl, rfl⟩)
      | (go_at_call 36; (with_reducible refine (lex_any m _ _ xs ys _ _ _ (H.out.up (by go_grown)) (H'.out.up (by go_grown)) HL.out HX.out HY.out hm).mono ?_); rintro e w' ⟨rfl, hw⟩; have HW := Lib.hid hw; clear hw)
      | go_in)
    go_ret
    exact ⟨ret_int (by unfold grlexL; rw [if_pos HG.out]), below_of_drewN (by go_grown) HW.out⟩
  · have hb : (g != 0) = true := by simp [hg0]
    have HG0 := Lib.hid hg0; clear hg0
    go_enter Try.func29, Try.ntmps29
    go_wp2_with (first
      | (go_at_call 39; (with_reducible refine (HC.out _ (H.out.up (by go_grown)) (H'.out.up (by go_grown))).mono ?_); rintro e w' ⟨rfl, rfl⟩)
      | go_in)
    go_ret
    exact ⟨ret_int (by unfold grlexL; rw [HG.out, if_neg HG0.out]), by go_grown⟩

set_option maxHeartbeats 400000 in
theorem cmp2_any (m : Int) (A B : Option Addr) (xs ys : List Int) (c d : Nat) (w : World) (h : IL w w.heap.size A xs) (h' : IL w w.heap.size B ys) (hl : xs.length = ys.length) (hx : Lim m xs) (hy : Lim m ys) (hm0 : 0 ≤ m) (hm : m ≤ 120) (cut : Int) :
    Calls Try.prog 29 #[.agg #[.int .i64 2, .int .i64 cut], .slice A xs.length c, .slice B ys.length d] w fun e w' => e = .returned (.int .i64 (grevL xs ys)) ∧ Below w.heap.size w w' := by
  have H := Lib.hid h; clear h
  have H' := Lib.hid h'; clear h'
  have HL := Lib.hid hl; clear hl
  have HX := Lib.hid hx; clear hx
  have HY := Lib.hid hy; clear hy
  go_enter Try.func29, Try.ntmps29
  go_wp2_with (go_at_call 41; (with_reducible refine (grevlex_any m _ _ xs ys _ _ _ (H.out.up (by go_grown)) (H'.out.up (by go_grown)) HL.out HX.out HY.out hm0 hm).mono ?_); rintro e w' ⟨rfl, hw⟩; have HW := Lib.hid hw; clear hw)
  go_ret
  exact ⟨rfl, below_of_drewN (by go_grown) HW.out⟩

theorem Lim.drop {m : Int} {xs : List Int} (h : Lim m xs) (k : Nat) : Lim m (xs.drop k) := by
  refine ⟨by rw [List.length_drop]; have := h.1; omega, fun j hj => ?_⟩
  rw [List.length_drop] at hj
  have := h.2 (k + j) (by omega)
  simpa [List.getD_eq_getElem?_getD, List.getElem?_drop] using this
theorem Lim.take {m : Int} {xs : List Int} (h : Lim m xs) (k : Nat) : Lim m (xs.take k) := by
  refine ⟨by rw [List.length_take]; have := h.1; omega, fun j hj => ?_⟩
  rw [List.length_take] at hj
  have := h.2 j (by omega)
  have h1 : j < k := by omega
  simpa [List.getD_eq_getElem?_getD, List.getElem?_take, h1] using this

/-- grevLex of two slices whose lengths are told by a number. -/
theorem grevlex_n (m : Int) (A B : Option Addr) (xs ys : List Int) (n n' c d : Nat) (hn : xs.length = n) (hn' : ys.length = n') (w : World) (h : IL w w.heap.size A xs) (h' : IL w w.heap.size B ys) (hl : xs.length = ys.length) (hx : Lim m xs) (hy : Lim m ys) (hm0 : 0 ≤ m) (hm : m ≤ 120) :
    Calls Try.prog 41 #[.slice A n c, .slice B n' d] w fun e w' => e = .returned (.int .i64 (grevL xs ys)) ∧ ∃ n, w' = w.drewN n := by
  subst hn; subst hn'
  exact grevlex_any m A B xs ys c d w h h' hl hx hy hm0 hm
theorem grev_n (m : Int) (A B : Option Addr) (xs ys : List Int) (n n' c d : Nat) (hn : xs.length = n) (hn' : ys.length = n') (w : World) (h : IL w w.heap.size A xs) (h' : IL w w.heap.size B ys) (hl : xs.length = ys.length) (hx : Lim m xs) (hy : Lim m ys) (hm0 : 0 ≤ m) (hm : m ≤ 120) :
    Calls Try.prog 46 #[.slice A n c, .slice B n' d] w fun e w' => e = .returned (.int .i64 (grevL xs ys)) ∧ ∃ n, w' = w.drewN n := by
  subst hn; subst hn'
  exact grev_any m A B xs ys c d w h h' hl hx hy hm0 hm

set_option maxHeartbeats 400000 in
theorem tail_any (m : Int) (A B : Option Addr) (xs ys : List Int) (c d : Nat) (w : World) (h : IL w w.heap.size A xs) (h' : IL w w.heap.size B ys) (hl : xs.length = ys.length) (hx : Lim m xs) (hy : Lim m ys) (hm0 : 0 ≤ m) (hm : m ≤ 120) (cut : Nat) (hcut : cut ≤ xs.length) (hc : xs.length ≤ c) (hd : ys.length ≤ d)
    (p q r : Nat) (hp : w.cell? ⟨p, 0, none⟩ = some (.slice A xs.length c)) (hq : w.cell? ⟨q, 1, none⟩ = some (.int .i64 (cut : Int))) (hr : w.cell? ⟨r, 0, none⟩ = some (.slice B ys.length d)) :
    Calls Try.prog 43 #[.pointer (some ⟨p, 0, none⟩), .pointer (some ⟨q, 0, none⟩), .pointer (some ⟨r, 0, none⟩)] w fun e w' => e = .returned (.int .i64 (grevL (xs.drop cut) (ys.drop cut))) ∧ ∃ n, w' = w.drewN n := by
  have h1 := h.cut hcut hc
  have h1' := h'.cut (k := cut) (by omega) hd
  obtain ⟨A2, hA2⟩ : ∃ A2, (if c = cut then A else Option.map (fun x => x.add cut) A) = A2 := ⟨_, rfl⟩
  obtain ⟨B2, hB2⟩ : ∃ B2, (if d = cut then B else Option.map (fun x => x.add cut) B) = B2 := ⟨_, rfl⟩
  rw [hA2] at h1
  rw [hB2] at h1'
  have HC : Hid (∀ k : Nat, Calls Try.prog 41 #[.slice A2 (xs.length - cut) (c - cut), .slice B2 (ys.length - cut) (d - cut)] (w.drewN k) fun e w' => e = .returned (.int .i64 (grevL (xs.drop cut) (ys.drop cut))) ∧ ∃ n, w' = (w.drewN k).drewN n) :=
    Lib.hid fun k => grevlex_n m A2 B2 (xs.drop cut) (ys.drop cut) _ _ _ _ List.length_drop List.length_drop (w.drewN k) (h1.up (below_drewN (Below.refl _ _) k)) (h1'.up (below_drewN (Below.refl _ _) k)) (by simp only [List.length_drop]; omega) (hx.drop _) (hy.drop _) hm0 hm
  have hcd : cut ≤ ys.length := by omega
  clear h h' h1 h1' hl hx hy
  go_enter Try.func43, Try.ntmps43
  go_wp2
  go_quiet ((go_at_call 41; exact Calls.quiet_of (HC.out _)))
  go_wp2
  go_ret
  exact ⟨rfl, _, rfl⟩

/-- first, of a number and the tail's closure. -/
def fst0 (g r : Int) : Int := if g = 0 then r else g
theorem fst0_no {g r : Int} (h : ¬ g = 0) : g = fst0 g r := by unfold fst0; rw [if_neg h]
def blockL (cut : Nat) (xs ys : List Int) : Int := fst0 (grevL (xs.take cut) (ys.take cut)) (grevL (xs.drop cut) (ys.drop cut))

set_option maxHeartbeats 400000 in
theorem first_any (g r : Int) (captured : Array Value) (w : World) (hc : Calls Try.prog 43 captured w fun e w' => e = .returned (.int .i64 r) ∧ ∃ n, w' = w.drewN n) :
    Calls Try.prog 38 #[.int .i64 g, .func (Fn.func 43) #[] captured] w fun e w' => e = .returned (.int .i64 (fst0 g r)) ∧ ∃ n, w' = w.drewN n := by
  have HC := Lib.hid hc; clear hc
  by_cases hg : g = 0
  · subst hg
    go_enter Try.func38, Try.ntmps38
    go_wp2_with (go_at_call 43; (with_reducible refine (HC.out).mono ?_); rintro e w' ⟨rfl, hw⟩; have HW := Lib.hid hw; clear hw)
    go_ret
    exact ⟨rfl, HW.out⟩
  · have hb : (g != 0) = true := by simp [hg]
    have HG := Lib.hid hg; clear hg
    go_enter Try.func38, Try.ntmps38
    go_wp2
    go_ret
    exact ⟨ret_int (fst0_no HG.out), 0, rfl⟩

set_option maxHeartbeats 1000000 in
theorem cmp3_any (m : Int) (A B : Option Addr) (xs ys : List Int) (c d : Nat) (w : World) (h : IL w w.heap.size A xs) (h' : IL w w.heap.size B ys) (hl : xs.length = ys.length) (hx : Lim m xs) (hy : Lim m ys) (hm0 : 0 ≤ m) (hm : m ≤ 120) (cut : Nat) (hcut : cut ≤ xs.length) (hc : xs.length ≤ c) (hd : ys.length ≤ d) :
    Calls Try.prog 29 #[.agg #[.int .i64 3, .int .i64 (cut : Int)], .slice A xs.length c, .slice B ys.length d] w fun e w' => e = .returned (.int .i64 (blockL cut xs ys)) ∧ Below w.heap.size w w' := by
  have hcd : cut ≤ ys.length := by omega
  have HC1 : Hid (∀ W : World, Below w.heap.size w W → Calls Try.prog 41 #[.slice A cut c, .slice B cut d] W fun e w' => e = .returned (.int .i64 (grevL (xs.take cut) (ys.take cut))) ∧ ∃ n, w' = W.drewN n) :=
    Lib.hid fun W hb => grevlex_n m A B (xs.take cut) (ys.take cut) _ _ _ _ (by simp only [List.length_take]; omega) (by simp only [List.length_take]; omega) W ((h.up hb).head hcut) ((h'.up hb).head (by omega)) (by simp only [List.length_take]; omega) (hx.take _) (hy.take _) hm0 hm
  have HC2 : Hid (∀ (W : World) (p q r : Nat), Below w.heap.size w W → W.cell? ⟨p, 0, none⟩ = some (.slice A xs.length c) → W.cell? ⟨q, 1, none⟩ = some (.int .i64 (cut : Int)) → W.cell? ⟨r, 0, none⟩ = some (.slice B ys.length d) →
      Calls Try.prog 38 #[.int .i64 (grevL (xs.take cut) (ys.take cut)), .func (Fn.func 43) #[] #[.pointer (some ⟨p, 0, none⟩), .pointer (some ⟨q, 0, none⟩), .pointer (some ⟨r, 0, none⟩)]] W fun e w' => e = .returned (.int .i64 (blockL cut xs ys)) ∧ ∃ n, w' = W.drewN n) :=
    Lib.hid fun W p q r hb hp hq hr => first_any _ _ _ W (tail_any m A B xs ys c d W (h.up hb) (h'.up hb) hl hx hy hm0 hm cut hcut hc hd p q r hp hq hr)
  clear h h' hl hx hy
  go_enter Try.func29, Try.ntmps29
  go_wp2
  go_quiet ((first
    | (go_at_call 41; exact Calls.quiet_of (HC1.out _ (below_drewN (by go_grown) _)))
    | (go_at_call 38; refine Calls.quiet_of (HC2.out _ _ _ _ (below_drewN (by go_grown) _) ?_ ?_ ?_) <;> go_cell)))
  go_wp2
  go_ret
  refine ⟨rfl, below_drewN (by go_grown) _⟩

set_option maxHeartbeats 400000 in
theorem refcmp0_any (m : Int) (A B : Option Addr) (xs ys : List Int) (c d : Nat) (w : World) (h : IL w w.heap.size A xs) (h' : IL w w.heap.size B ys) (hl : xs.length = ys.length) (hx : Lim m xs) (hy : Lim m ys) (hm : m ≤ 120) (cut : Int) :
    Calls Try.prog 30 #[.agg #[.int .i64 0, .int .i64 cut], .slice A xs.length c, .slice B ys.length d] w fun e w' => e = .returned (.int .i64 (lexL xs ys)) ∧ Below w.heap.size w w' := by
  have H := Lib.hid h; clear h
  have H' := Lib.hid h'; clear h'
  have HL := Lib.hid hl; clear hl
  have HX := Lib.hid hx; clear hx
  have HY := Lib.hid hy; clear hy
  go_enter Try.func30, Try.ntmps30
  go_wp2_with (go_at_call 44; (with_reducible refine (reflex_any m _ _ xs ys _ _ _ (H.out.up (by go_grown)) (H'.out.up (by go_grown)) HL.out HX.out HY.out hm).mono ?_); rintro e w' ⟨rfl, hw⟩; have HW := Lib.hid hw; clear hw)
  go_ret
  exact ⟨rfl, below_of_drewN (by go_grown) HW.out⟩

set_option maxHeartbeats 1000000 in
theorem refcmp1_any (m : Int) (A B : Option Addr) (xs ys : List Int) (c d : Nat) (w : World) (h : IL w w.heap.size A xs) (h' : IL w w.heap.size B ys) (hl : xs.length = ys.length) (hx : Lim m xs) (hy : Lim m ys) (hm0 : 0 ≤ m) (hm : m ≤ 120) (cut : Int) :
    Calls Try.prog 30 #[.agg #[.int .i64 1, .int .i64 cut], .slice A xs.length c, .slice B ys.length d] w fun e w' => e = .returned (.int .i64 (grlexL xs ys)) ∧ Below w.heap.size w w' := by
  have hdx := hx.deg hm0 hm
  have hdy := hy.deg hm0 hm
  have HDX := Lib.hid fun (W : World) (hb : Below w.heap.size w W) => refdeg_any A xs c m W (h.up hb) hx hm0 hm
  have HDY := Lib.hid fun (W : World) (hb : Below w.heap.size w W) => refdeg_any B ys d m W (h'.up hb) hy hm0 hm
  have HLEX := Lib.hid fun (W : World) (hb : Below w.heap.size w W) => reflex_any m A B xs ys c d W (h.up hb) (h'.up hb) hl hx hy hm
  clear h h' hl hx hy
  obtain ⟨p, hp⟩ : ∃ p, degL xs = p := ⟨_, rfl⟩
  obtain ⟨q, hq⟩ : ∃ q, degL ys = q := ⟨_, rfl⟩
  rw [hp] at HDX hdx
  rw [hq] at HDY hdy
  have HP := Lib.hid hp
  have HQ := Lib.hid hq
  clear hp hq
  by_cases hg0 : p = q
  · have hg1 : (p != q) = false := by simp [hg0]
    have HG : Hid (sg (degL xs - degL ys) = 0) := Lib.hid (by rw [HP.out, HQ.out]; exact sg_zero (by omega))
    clear hg0
    go_enter Try.func30, Try.ntmps30
    go_wp2_with (first
      | (go_at_call 28; (with_reducible refine (HDX.out _ (by go_grown)).mono ?_); rintro e w' ⟨rfl, rfl⟩)
      | (go_at_call 28; (with_reducible refine (HDY.out _ (by go_grown)).mono ?_); rintro e w' ⟨rfl, rfl⟩)
      | (go_at_call 44; (with_reducible refine (HLEX.out _ (by go_grown)).mono ?_); rintro e w' ⟨rfl, hw⟩; have HW := Lib.hid hw; clear hw))
    go_ret
    exact ⟨ret_int (by unfold grlexL; rw [if_pos HG.out]), below_of_drewN (by go_grown) HW.out⟩
  · have hb : (p != q) = true := by simp [hg0]
    have HG0 := Lib.hid hg0; clear hg0
    go_enter Try.func30, Try.ntmps30
    go_wp2_with (first
      | (go_at_call 28; (with_reducible refine (HDX.out _ (by go_grown)).mono ?_); rintro e w' ⟨rfl, rfl⟩)
      | (go_at_call 28; (with_reducible refine (HDY.out _ (by go_grown)).mono ?_); rintro e w' ⟨rfl, rfl⟩)
      | (go_at_call 45; (with_reducible refine (refsign_any _ _).mono ?_); rintro e w' ⟨rfl, rfl⟩))
    go_ret
    exact ⟨ret_int (by unfold grlexL; rw [HP.out, HQ.out, if_neg (sg_ne (by have := HG0.out; omega))]), by go_grown⟩

set_option maxHeartbeats 400000 in
theorem refcmp2_any (m : Int) (A B : Option Addr) (xs ys : List Int) (c d : Nat) (w : World) (h : IL w w.heap.size A xs) (h' : IL w w.heap.size B ys) (hl : xs.length = ys.length) (hx : Lim m xs) (hy : Lim m ys) (hm0 : 0 ≤ m) (hm : m ≤ 120) (cut : Int) :
    Calls Try.prog 30 #[.agg #[.int .i64 2, .int .i64 cut], .slice A xs.length c, .slice B ys.length d] w fun e w' => e = .returned (.int .i64 (grevL xs ys)) ∧ Below w.heap.size w w' := by
  have H := Lib.hid h; clear h
  have H' := Lib.hid h'; clear h'
  have HL := Lib.hid hl; clear hl
  have HX := Lib.hid hx; clear hx
  have HY := Lib.hid hy; clear hy
  go_enter Try.func30, Try.ntmps30
  go_wp2_with (go_at_call 46; (with_reducible refine (grev_any m _ _ xs ys _ _ _ (H.out.up (by go_grown)) (H'.out.up (by go_grown)) HL.out HX.out HY.out hm0 hm).mono ?_); rintro e w' ⟨rfl, hw⟩; have HW := Lib.hid hw; clear hw)
  go_ret
  exact ⟨rfl, below_of_drewN (by go_grown) HW.out⟩

theorem fst0_yes {g r : Int} (h : g = 0) : r = fst0 g r := by unfold fst0; rw [if_pos h]

set_option maxHeartbeats 1000000 in
theorem refcmp3_any (m : Int) (A B : Option Addr) (xs ys : List Int) (c d : Nat) (w : World) (h : IL w w.heap.size A xs) (h' : IL w w.heap.size B ys) (hl : xs.length = ys.length) (hx : Lim m xs) (hy : Lim m ys) (hm0 : 0 ≤ m) (hm : m ≤ 120) (cut : Nat) (hcut : cut ≤ xs.length) (hc : xs.length ≤ c) (hd : ys.length ≤ d) :
    Calls Try.prog 30 #[.agg #[.int .i64 3, .int .i64 (cut : Int)], .slice A xs.length c, .slice B ys.length d] w fun e w' => e = .returned (.int .i64 (blockL cut xs ys)) ∧ Below w.heap.size w w' := by
  have hcd : cut ≤ ys.length := by omega
  have h1 := h.cut hcut hc
  have h1' := h'.cut (k := cut) (by omega) hd
  obtain ⟨A2, hA2⟩ : ∃ A2, (if c = cut then A else Option.map (fun x => x.add cut) A) = A2 := ⟨_, rfl⟩
  obtain ⟨B2, hB2⟩ : ∃ B2, (if d = cut then B else Option.map (fun x => x.add cut) B) = B2 := ⟨_, rfl⟩
  rw [hA2] at h1
  rw [hB2] at h1'
  obtain ⟨g, hg⟩ : ∃ g, grevL (xs.take cut) (ys.take cut) = g := ⟨_, rfl⟩
  have HC1 : Hid (∀ W : World, Below w.heap.size w W → Calls Try.prog 46 #[.slice A cut c, .slice B cut d] W fun e w' => e = .returned (.int .i64 g) ∧ ∃ n, w' = W.drewN n) :=
    Lib.hid fun W hb => by rw [← hg]; exact grev_n m A B (xs.take cut) (ys.take cut) _ _ _ _ (by simp only [List.length_take]; omega) (by simp only [List.length_take]; omega) W ((h.up hb).head hcut) ((h'.up hb).head (by omega)) (by simp only [List.length_take]; omega) (hx.take _) (hy.take _) hm0 hm
  have HC2 : Hid (∀ W : World, Below w.heap.size w W → Calls Try.prog 46 #[.slice A2 (xs.length - cut) (c - cut), .slice B2 (ys.length - cut) (d - cut)] W fun e w' => e = .returned (.int .i64 (grevL (xs.drop cut) (ys.drop cut))) ∧ ∃ n, w' = W.drewN n) :=
    Lib.hid fun W hb => grev_n m A2 B2 (xs.drop cut) (ys.drop cut) _ _ _ _ List.length_drop List.length_drop W (h1.up hb) (h1'.up hb) (by simp only [List.length_drop]; omega) (hx.drop _) (hy.drop _) hm0 hm
  have HG := Lib.hid hg
  clear h h' h1 h1' hl hx hy hg
  by_cases hg0 : g = 0
  · subst hg0
    go_enter Try.func30, Try.ntmps30
    go_wp2
    go_quiet ((go_at_call 46; exact Calls.quiet_of (HC1.out _ (below_drewN (by go_grown) _))))
    go_wp2
    go_quiet ((go_at_call 46; first | exact Calls.quiet_of (HC2.out _ (below_drewN (below_drewN (by go_grown) _) _)) | exact quiet_add (HC2.out _ (below_drewN (by go_grown) _))))
    go_wp2
    go_ret
    exact ⟨ret_int (by unfold blockL; exact fst0_yes HG.out), below_drewN (below_drewN (by go_grown) _) _⟩
  · have hb : (g != 0) = true := by simp [hg0]
    have HG0 := Lib.hid hg0; clear hg0
    go_enter Try.func30, Try.ntmps30
    go_wp2
    go_quiet ((go_at_call 46; exact Calls.quiet_of (HC1.out _ (below_drewN (by go_grown) _))))
    go_wp2
    go_ret
    exact ⟨ret_int (by unfold blockL; rw [HG.out]; exact fst0_no HG0.out), below_drewN (by go_grown) _⟩
end Go.Proofs.Ytflobccekfgiaaa
