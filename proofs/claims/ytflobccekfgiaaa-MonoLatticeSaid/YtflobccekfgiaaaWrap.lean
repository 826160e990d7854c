/- The contracts in one form each: the result by a letter, the world by Below. -/
import Derived.Test.YtflobccekfgiaaaAwake
namespace Go.Proofs.Ytflobccekfgiaaa
open Go.RowKit

def mulZ (xs ys : List Int) : List Int := if rightB xs.length (zipL (fun x y => x + y) xs ys) = true then zipL (fun x y => x + y) xs ys else []
def mulE (xs ys : List Int) : Int := if rightB xs.length (zipL (fun x y => x + y) xs ys) = true then 0 else 2
def divZ (xs ys : List Int) : List Int := if divB ys xs = true then zipL (fun x y => x - y) xs ys else []

section
variable (A B : Option Addr) (xs ys : List Int) (c d : Nat) (w : World) (h : IL w w.heap.size A xs) (h' : IL w w.heap.size B ys)
include h h'
theorem mul_c (hl : xs.length = ys.length) (hx : Lim 60 xs) (hy : Lim 60 ys) :
    Calls Try.prog 16 #[.slice A xs.length c, .slice B ys.length d] w fun e w' => MadeWith (mulZ xs ys) (.int .i64 (mulE xs ys)) w e w' := by
  cases hr : rightB xs.length (zipL (fun x y => x + y) xs ys)
  · have h1 : mulZ xs ys = [] := by unfold mulZ; rw [hr]; rfl
    have h2 : mulE xs ys = 2 := by unfold mulE; rw [hr]; rfl
    rw [h1, h2]
    exact mul_no A B xs ys c d w h h' hl hx hy hr
  · have h1 : mulZ xs ys = zipL (fun x y => x + y) xs ys := by unfold mulZ; rw [hr]; rfl
    have h2 : mulE xs ys = 0 := by unfold mulE; rw [hr]; rfl
    rw [h1, h2]
    exact mul_yes A B xs ys c d w h h' hl hx hy hr
theorem refmul_c (hl : xs.length = ys.length) (hx : Lim 60 xs) (hy : Lim 60 ys) :
    Calls Try.prog 17 #[.slice A xs.length c, .slice B ys.length d] w fun e w' => MadeWith (mulZ xs ys) (.int .i64 (mulE xs ys)) w e w' := by
  cases hr : rightB xs.length (zipL (fun x y => x + y) xs ys)
  · have h1 : mulZ xs ys = [] := by unfold mulZ; rw [hr]; rfl
    have h2 : mulE xs ys = 2 := by unfold mulE; rw [hr]; rfl
    rw [h1, h2]
    exact refmul_no A B xs ys c d w h h' hl hx hy hr
  · have h1 : mulZ xs ys = zipL (fun x y => x + y) xs ys := by unfold mulZ; rw [hr]; rfl
    have h2 : mulE xs ys = 0 := by unfold mulE; rw [hr]; rfl
    rw [h1, h2]
    exact refmul_yes A B xs ys c d w h h' hl hx hy hr
theorem div_c (hl : xs.length = ys.length) (hx : Lim 60 xs) (hy : Lim 60 ys) :
    Calls Try.prog 18 #[.slice A xs.length c, .slice B ys.length d] w fun e w' => MadeWith (divZ xs ys) (.bool (divB ys xs)) w e w' := by
  cases hr : divB ys xs
  · have h1 : divZ xs ys = [] := by unfold divZ; rw [hr]; rfl
    rw [h1]
    exact div_no A B xs ys c d w h h' hl hy hr
  · have h1 : divZ xs ys = zipL (fun x y => x - y) xs ys := by unfold divZ; rw [hr]; rfl
    rw [h1]
    exact div_yes A B xs ys c d w h h' hl hx hy hr
theorem refdiv_c (hl : xs.length = ys.length) (hx : Lim 60 xs) (hy : Lim 60 ys) :
    Calls Try.prog 19 #[.slice A xs.length c, .slice B ys.length d] w fun e w' => MadeWith (divZ xs ys) (.bool (divB ys xs)) w e w' := by
  cases hr : divB ys xs
  · have h1 : divZ xs ys = [] := by unfold divZ; rw [hr]; rfl
    rw [h1]
    exact refdiv_no A B xs ys c d w h h' hl hy hr
  · have h1 : divZ xs ys = zipL (fun x y => x - y) xs ys := by unfold divZ; rw [hr]; rfl
    rw [h1]
    exact refdiv_yes A B xs ys c d w h h' hl hx hy hr
theorem same_c (hxl : xs.length ≤ 9223372036854775807) (hyl : ys.length ≤ 9223372036854775807) :
    Calls Try.prog 20 #[.slice A xs.length c, .slice B ys.length d] w fun e w' => e = .returned (.bool (sameB xs ys)) ∧ Below w.heap.size w w' :=
  (same_any A B xs ys c d w h h' hxl hyl).mono fun _ _ h => ⟨h.1, below_of_drewN (Below.refl _ _) h.2⟩
theorem refdivides_c (hl : xs.length = ys.length) (h6 : xs.length ≤ 6) :
    Calls Try.prog 22 #[.slice A xs.length c, .slice B ys.length d] w fun e w' => e = .returned (.bool (divB xs ys)) ∧ Below w.heap.size w w' :=
  (refdivides_any A B xs ys c d w h h' hl h6).mono fun _ _ h => ⟨h.1, below_of_drewN (Below.refl _ _) h.2⟩
end
theorem sameB_self (xs : List Int) : sameB xs xs = true := by unfold sameB; exact decide_eq_true rfl

/-- The order of two lists, of any kind. -/
def cmpL (k cut : Int) (xs ys : List Int) : Int := if k = 0 then lexL xs ys else if k = 1 then grlexL xs ys else if k = 2 then grevL xs ys else blockL cut.toNat xs ys

theorem cmp_c (n : Int) (k cut : Int) (m : Int) (A B : Option Addr) (xs ys : List Int) (c d : Nat) (w : World) (h : IL w w.heap.size A xs) (h' : IL w w.heap.size B ys) (hl : xs.length = ys.length) (hx : Lim m xs) (hy : Lim m ys) (hm0 : 0 ≤ m) (hm : m ≤ 120) (hn : n = xs.length) (ho : orderB n k cut = true) (hc : xs.length ≤ c) (hd : ys.length ≤ d) :
    Calls Try.prog 29 #[.agg #[.int .i64 k, .int .i64 cut], .slice A xs.length c, .slice B ys.length d] w fun e w' => e = .returned (.int .i64 (cmpL k cut xs ys)) ∧ Below w.heap.size w w' := by
  unfold orderB at ho
  obtain ⟨h0, h6, hk⟩ := of_decide_eq_true ho
  rcases hk with ⟨rfl, hc0, hcn⟩ | ⟨hk0, hk2, rfl⟩
  · obtain ⟨j, rfl⟩ : ∃ j : Nat, cut = j := ⟨cut.toNat, by omega⟩
    have e : cmpL 3 (j : Int) xs ys = blockL j xs ys := by unfold cmpL; simp
    rw [e]
    exact cmp3_any m A B xs ys c d w h h' hl hx hy hm0 hm j (by omega) hc hd
  · rcases (show k = 0 ∨ k = 1 ∨ k = 2 by omega) with rfl | rfl | rfl
    · exact cmp0_any m A B xs ys c d w h h' hl hx hy hm 0
    · exact cmp1_any m A B xs ys c d w h h' hl hx hy hm0 hm 0
    · exact cmp2_any m A B xs ys c d w h h' hl hx hy hm0 hm 0
theorem refcmp_c (n : Int) (k cut : Int) (m : Int) (A B : Option Addr) (xs ys : List Int) (c d : Nat) (w : World) (h : IL w w.heap.size A xs) (h' : IL w w.heap.size B ys) (hl : xs.length = ys.length) (hx : Lim m xs) (hy : Lim m ys) (hm0 : 0 ≤ m) (hm : m ≤ 120) (hn : n = xs.length) (ho : orderB n k cut = true) (hc : xs.length ≤ c) (hd : ys.length ≤ d) :
    Calls Try.prog 30 #[.agg #[.int .i64 k, .int .i64 cut], .slice A xs.length c, .slice B ys.length d] w fun e w' => e = .returned (.int .i64 (cmpL k cut xs ys)) ∧ Below w.heap.size w w' := by
  unfold orderB at ho
  obtain ⟨h0, h6, hk⟩ := of_decide_eq_true ho
  rcases hk with ⟨rfl, hc0, hcn⟩ | ⟨hk0, hk2, rfl⟩
  · obtain ⟨j, rfl⟩ : ∃ j : Nat, cut = j := ⟨cut.toNat, by omega⟩
    have e : cmpL 3 (j : Int) xs ys = blockL j xs ys := by unfold cmpL; simp
    rw [e]
    exact refcmp3_any m A B xs ys c d w h h' hl hx hy hm0 hm j (by omega) hc hd
  · rcases (show k = 0 ∨ k = 1 ∨ k = 2 by omega) with rfl | rfl | rfl
    · exact refcmp0_any m A B xs ys c d w h h' hl hx hy hm 0
    · exact refcmp1_any m A B xs ys c d w h h' hl hx hy hm0 hm 0
    · exact refcmp2_any m A B xs ys c d w h h' hl hx hy hm0 hm 0
end Go.Proofs.Ytflobccekfgiaaa
