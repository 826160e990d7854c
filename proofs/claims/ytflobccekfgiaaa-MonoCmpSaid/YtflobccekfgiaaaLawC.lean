/- The walk of MonoCmp. -/
import Derived.Test.YtflobccekfgiaaaWrap
namespace Go.Proofs.Ytflobccekfgiaaa
open Go.RowKit

set_option maxHeartbeats 1000000 in
theorem law_cmp (k cut : Int) (A B : Option Addr) (xs ys : List Int) (c d : Nat) (w : World) (h : IL w w.heap.size A xs) (h' : IL w w.heap.size B ys) (hxl : xs.length ≤ 9223372036854775807) (hyl : ys.length ≤ 9223372036854775807) (hc : xs.length ≤ c) (hd : ys.length ≤ d) :
    Calls Try.prog 5 #[.agg #[.int .i64 k, .int .i64 cut], .slice A xs.length c, .slice B ys.length d] w fun e w' => e = .returned (.bool true) ∧ Below w.heap.size w w' := by
  have HT0 : Hid (∀ W : World, Below w.heap.size w W → Calls Try.prog 15 #[.slice A xs.length c, .slice B ys.length d] W fun e w' => e = .returned (.bool (twoB xs ys)) ∧ W = w') :=
    Lib.hid fun W hb => two_any A B xs ys c d W (h.up hb) (h'.up hb) hxl hyl
  have HO0 : Hid (∀ W : World, Calls Try.prog 14 #[.int .i64 (xs.length : Int), .agg #[.int .i64 k, .int .i64 cut]] W fun e w' => e = .returned (.bool (orderB xs.length k cut)) ∧ Below W.heap.size W w') :=
    Lib.hid fun W => reforder_any xs.length k cut W
  by_cases ht : twoB xs ys = true
  · obtain ⟨hl, hx, hy⟩ := two_lim ht
    by_cases ho : orderB xs.length k cut = true
    · obtain ⟨r, hr⟩ : ∃ r, cmpL k cut xs ys = r := ⟨_, rfl⟩
      have HA : Hid (∀ W : World, Below w.heap.size w W → Calls Try.prog 29 #[.agg #[.int .i64 k, .int .i64 cut], .slice A xs.length c, .slice B ys.length d] W fun e w' => e = .returned (.int .i64 r) ∧ Below W.heap.size W w') :=
        Lib.hid fun W hb => by rw [← hr]; exact cmp_c _ k cut 60 A B xs ys c d W (h.up hb) (h'.up hb) hl hx hy (by omega) (by omega) rfl ho hc hd
      have HB : Hid (∀ W : World, Below w.heap.size w W → Calls Try.prog 30 #[.agg #[.int .i64 k, .int .i64 cut], .slice A xs.length c, .slice B ys.length d] W fun e w' => e = .returned (.int .i64 r) ∧ Below W.heap.size W w') :=
        Lib.hid fun W hb => by rw [← hr]; exact refcmp_c _ k cut 60 A B xs ys c d W (h.up hb) (h'.up hb) hl hx hy (by omega) (by omega) rfl ho hc hd
      rw [ht] at HT0
      rw [ho] at HO0
      clear h h' ht ho hl hx hy hr
      go_enter Try.func5, Try.ntmps5
      go_wp2_with (first
        | (go_at_call 10; (with_reducible refine (awake_any _).mono ?_); rintro e w1 ⟨rfl, hb1⟩; have HB1 := Lib.hid (below_chain (w := w) (by go_grown) hb1); have o1 := (hb1.cell (p := ⟨w.heap.size, 0, none⟩) (by (try simp only [World.size_alloc]); omega)).trans (show _ = some (Value.int .i64 k) by go_cell); have p1 := (hb1.cell (p := ⟨w.heap.size, 1, none⟩) (by (try simp only [World.size_alloc]); omega)).trans (show _ = some (Value.int .i64 cut) by go_cell); have z1 : w.heap.size < w1.heap.size := (by (have := hb1.size; (try simp only [World.size_alloc] at this); omega)); clear hb1)
        | (go_at_call 15; (with_reducible refine (HT0.out _ HB1.out).mono ?_); rintro e w' ⟨rfl, rfl⟩)
        | (go_at_call 14; (with_reducible refine (HO0.out _).mono ?_); rintro e w2 ⟨rfl, hb2⟩; have HB2 := Lib.hid (below_chain HB1.out hb2); have o2 := (hb2.cell (p := ⟨w.heap.size, 0, none⟩) z1).trans o1; have p2 := (hb2.cell (p := ⟨w.heap.size, 1, none⟩) z1).trans p1; have z2 := Nat.lt_of_lt_of_le z1 hb2.size; clear hb2))
      have hbw := HB2.out
      go_region_held3 (fun w' => Below w.heap.size w w' ∧ w.heap.size < w'.heap.size ∧ w'.cell? ⟨w.heap.size, 0, none⟩ = some (.int .i64 k) ∧ w'.cell? ⟨w.heap.size, 1, none⟩ = some (.int .i64 cut))
        (first
          | (go_split_ands; refine ⟨?_, ?_, ?_, ?_⟩; (first | assumption | exact Below.drew (by assumption)); (first | assumption | (simp; done)); assumption; assumption)
          | (go_split_ands; refine ⟨below_chain ?_ hb2, Nat.lt_of_lt_of_le ?_ hb2.size, (hb2.cell (p := ⟨w.heap.size, 0, none⟩) ?_).trans ?_, (hb2.cell (p := ⟨w.heap.size, 1, none⟩) ?_).trans ?_⟩ <;> assumption))
        (first
          | (go_at_call 29; refine (HA.out _ ?_).mono ?_; (go_split_ands; assumption); rintro e w2 ⟨rfl, hb2⟩)
          | (go_at_call 30; refine (HB.out _ ?_).mono ?_; (go_split_ands; assumption); rintro e w2 ⟨rfl, hb2⟩))
      all_goals go_wp2
      all_goals go_ret
      all_goals exact ⟨rfl, by go_split_ands; assumption⟩
    · have ho' : orderB xs.length k cut = false := by simpa using ho
      rw [ht] at HT0
      rw [ho'] at HO0
      clear h h' ht ho ho' hl hx hy
      go_enter Try.func5, Try.ntmps5
      go_wp2_with (first
        | (go_at_call 10; (with_reducible refine (awake_any _).mono ?_); rintro e w1 ⟨rfl, hb1⟩; have HB1 := Lib.hid (below_chain (w := w) (by go_grown) hb1); have o1 := (hb1.cell (p := ⟨w.heap.size, 0, none⟩) (by (try simp only [World.size_alloc]); omega)).trans (show _ = some (Value.int .i64 k) by go_cell); have p1 := (hb1.cell (p := ⟨w.heap.size, 1, none⟩) (by (try simp only [World.size_alloc]); omega)).trans (show _ = some (Value.int .i64 cut) by go_cell); clear hb1)
        | (go_at_call 15; (with_reducible refine (HT0.out _ HB1.out).mono ?_); rintro e w' ⟨rfl, rfl⟩)
        | (go_at_call 14; (with_reducible refine (HO0.out _).mono ?_); rintro e w2 ⟨rfl, hb2⟩; have HB2 := Lib.hid (below_chain HB1.out hb2); clear hb2))
      go_ret
      exact ⟨rfl, HB2.out⟩
  · have ht' : twoB xs ys = false := by simpa using ht
    rw [ht'] at HT0
    clear h h' ht ht' HO0
    go_enter Try.func5, Try.ntmps5
    go_wp2_with (first
      | (go_at_call 10; (with_reducible refine (awake_any _).mono ?_); rintro e w1 ⟨rfl, hb1⟩; have HB1 := Lib.hid (below_chain (w := w) (by go_grown) hb1); clear hb1)
      | (go_at_call 15; (with_reducible refine (HT0.out _ HB1.out).mono ?_); rintro e w' ⟨rfl, rfl⟩))
    go_ret
    exact ⟨rfl, HB1.out⟩
end Go.Proofs.Ytflobccekfgiaaa
