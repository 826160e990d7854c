/- NatLaws, for every input. -/
import Derived.Test.YtankonnhednmeaaLawL
namespace Go.Proofs.Ytankonnhednmeaa
open Go.RowKit

set_option maxHeartbeats 1000000 in
theorem law_laws (A B C : Option Addr) (xs ys zs : List Int) (c d e' : Nat) (w : World) (h : KL .u32 w w.heap.size A xs) (h' : KL .u32 w w.heap.size B ys) (h'' : KL .u32 w w.heap.size C zs) (hd : D32 xs) (hd' : D32 ys) (hd'' : D32 zs)
    (hxl : xs.length ≤ 9223372036854775807) (hyl : ys.length ≤ 9223372036854775807) (hzl : zs.length ≤ 9223372036854775807) :
    Calls Try.prog 10 #[.slice A xs.length c, .slice B ys.length d, .slice C zs.length e'] w fun e w' => e = .returned (.bool true) ∧ Below w.heap.size w w' := by
  by_cases hm1 : mayB xs ys = true
  · by_cases hm2 : mayB zs [] = true
    · obtain ⟨n, m, rfl, rfl, hn, hm⟩ := may_parts hm1 hd hd'
      obtain ⟨k, _, rfl, _, hk, _⟩ := may_parts hm2 hd'' Dig.nil_
      have hcs := cmpN_cases n m
      have htr := cmpN_trans n m k
      have hsw := cmpN_swap n m
      refine law_laws_yes n m k A B C c d e' w h h' h'' hn hm hk (cmpN n m) (cmpN m k) (cmpN n k) (decide (n = m)) rfl hsw rfl rfl rfl ?_ hm1 hm2
      rcases hcs with ⟨h1, h2⟩ | ⟨h1, h2⟩ | ⟨h1, h2⟩
      · exact Or.inl ⟨h1, decide_eq_false h2⟩
      · rcases Int.lt_or_le 0 (cmpN m k) with hy | hy
        · exact Or.inr (Or.inr (Or.inl ⟨h1, decide_eq_true h2, hy⟩))
        · exact Or.inr (Or.inl ⟨h1, decide_eq_true h2, hy, htr (by omega) hy⟩)
      · rcases Int.lt_or_le 0 (cmpN m k) with hy | hy
        · exact Or.inr (Or.inr (Or.inr (Or.inr ⟨h1, decide_eq_false h2, hy⟩)))
        · exact Or.inr (Or.inr (Or.inr (Or.inl ⟨h1, decide_eq_false h2, hy, htr (by omega) hy⟩)))
    · have hm2' : mayB zs [] = false := by simpa using hm2
      have HT : Hid (∀ W : World, Calls Try.prog 11 #[.slice A xs.length c, .slice B ys.length d] w fun e w' => e = .returned (.bool true) ∧ w = w') :=
        Lib.hid fun W => by rw [← hm1]; exact may_any A B xs ys c d w h h' hxl hyl
      have HT2 : Hid (∀ W : World, Calls Try.prog 11 #[.slice C zs.length e', .slice none 0 0] w fun e w' => e = .returned (.bool false) ∧ w = w') :=
        Lib.hid fun W => by rw [← hm2']; exact may_any C none zs [] e' 0 w h'' KL.nil_ hzl (by simp)
      clear h h' h'' hm1 hm2 hm2' hd hd' hd''
      go_enter Try.func10, Try.ntmps10
      go_wp2_with (first
        | (go_at_call 11; (with_reducible refine (HT.out w).mono ?_); rintro e w' ⟨rfl, rfl⟩)
        | (go_at_call 11; (with_reducible refine (HT2.out w).mono ?_); rintro e w' ⟨rfl, rfl⟩)
        | (go_at_call 12; (with_reducible refine (awake_any _).mono ?_); rintro e w1 ⟨rfl, hb⟩; have HB_1 := Lib.hid hb; clear hb))
      go_ret
      exact ⟨rfl, HB_1.out⟩
  · have hm1' : mayB xs ys = false := by simpa using hm1
    have HT : Hid (∀ W : World, Calls Try.prog 11 #[.slice A xs.length c, .slice B ys.length d] w fun e w' => e = .returned (.bool false) ∧ w = w') :=
      Lib.hid fun W => by rw [← hm1']; exact may_any A B xs ys c d w h h' hxl hyl
    clear h h' h'' hm1 hm1' hd hd' hd''
    go_enter Try.func10, Try.ntmps10
    go_wp2_with (first
      | (go_at_call 11; (with_reducible refine (HT.out w).mono ?_); rintro e w' ⟨rfl, rfl⟩)
      | (go_at_call 12; (with_reducible refine (awake_any _).mono ?_); rintro e w1 ⟨rfl, hb⟩; have HB_1 := Lib.hid hb; clear hb))
    go_ret
    exact ⟨rfl, HB_1.out⟩
end Go.Proofs.Ytankonnhednmeaa
