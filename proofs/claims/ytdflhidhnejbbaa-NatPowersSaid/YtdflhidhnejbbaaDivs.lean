/- Contracts: DivMod of short numbers. -/
import Derived.Test.YtdflhidhnejbbaaPow
namespace Go.Proofs.Ytdflhidhnejbbaa
open Go.RowKit

/-- A quotient and a rest that were made. -/
def MadeQR (q r : Nat) (b : Bool) (w : World) (e : Ending) (w' : World) : Prop :=
  ∃ (A : Option Addr) (c : Nat) (B : Option Addr) (d : Nat), e = .returned (.tuple #[.slice A (limbs q).length c, .slice B (limbs r).length d, .bool b]) ∧ KL .u32 w' w'.heap.size A (limbs q) ∧ KL .u32 w' w'.heap.size B (limbs r) ∧ (limbs q).length ≤ c ∧ (limbs r).length ≤ d ∧ Below w.heap.size w w'

set_option maxHeartbeats 1000000 in
theorem divmod_short (m k : Nat) (A B : Option Addr) (c d : Nat) (w : World) (h : KL .u32 w w.heap.size A (limbs m)) (h' : KL .u32 w w.heap.size B (limbs k)) (hk : 0 < k) (hkm : k ≤ m) (hm : m < 18446744073709551616) :
    Calls Try.prog 20 #[.slice A (limbs m).length c, .slice B (limbs k).length d] w fun e w' => MadeQR (m / k) (m % k) true w e w' := by
  have h1 := limbs_two.2 hm
  have h2 := limbs_two.2 (Nat.lt_of_le_of_lt hkm hm)
  have h3 := limbs_len_pos.2 hk
  have hb1 : (((limbs k).length : Int) == 0) = false := by rw [beq_eq_false_iff_ne]; omega
  have hc0 : 0 ≤ cmpN m k := by unfold cmpN; rw [if_neg (by omega)]; split <;> omega
  obtain ⟨r, hr⟩ : ∃ r, cmpN m k = r := ⟨_, rfl⟩
  have HC : Hid (∀ W : World, Below w.heap.size w W → Calls Try.prog 18 #[.slice A (limbs m).length c, .slice B (limbs k).length d] W fun e w' => e = .returned (.int .i64 r) ∧ Below W.heap.size W w') :=
    Lib.hid fun W hb => by
      have := cmp_lists A B (limbs m) (limbs k) c d W (h.up hb) (h'.up hb) (limbs_dig m) (limbs_dig k) (by omega) (by omega)
      rw [cmpV_limbs, hr] at this
      exact this.mono fun _ _ h => ⟨h.1, below_of_drewN (Below.refl _ _) h.2⟩
  have hU : Hid (∀ W : World, Below w.heap.size w W → Calls Try.prog 33 #[.slice A (limbs m).length c] W fun e w' => e = .returned (.tuple #[.int .u64 (m : Int), .bool true]) ∧ Below W.heap.size W w') :=
    Lib.hid fun W hb => by
      have := uint_any m A c W (h.up hb) (by omega)
      rw [if_pos hm, decide_eq_true hm] at this
      exact this.mono fun _ _ h => ⟨h.1, below_of_drewN (Below.refl _ _) h.2⟩
  have hV : Hid (∀ W : World, Below w.heap.size w W → Calls Try.prog 33 #[.slice B (limbs k).length d] W fun e w' => e = .returned (.tuple #[.int .u64 (k : Int), .bool true]) ∧ Below W.heap.size W w') :=
    Lib.hid fun W hb => by
      have := uint_any k B d W (h'.up hb) (by omega)
      rw [if_pos (by omega), decide_eq_true (by omega)] at this
      exact this.mono fun _ _ h => ⟨h.1, below_of_drewN (Below.refl _ _) h.2⟩
  obtain ⟨q, hq⟩ : ∃ q, m / k = q := ⟨_, rfl⟩
  obtain ⟨t, ht⟩ : ∃ t, m % k = t := ⟨_, rfl⟩
  have hq' : (m : Int) / (k : Int) = (q : Int) := by rw [← hq, Int.natCast_ediv]
  have ht' : (m : Int) % (k : Int) = (t : Int) := by rw [← ht, Int.natCast_emod]
  have hq'' : (m : Int).tdiv (k : Int) = (q : Int) := by rw [Int.tdiv_eq_ediv_of_nonneg (by omega)]; exact hq'
  have ht'' : (m : Int).tmod (k : Int) = (t : Int) := by rw [Int.tmod_eq_emod_of_nonneg (by omega)]; exact ht'
  have hql : q ≤ m := by rw [← hq]; exact Nat.div_le_self _ _
  have htl : t ≤ m := by rw [← ht]; exact Nat.mod_le _ _
  have hq64 : (q : Int) ≤ 18446744073709551615 := by omega
  have ht64 : (t : Int) ≤ 18446744073709551615 := by omega
  have hk0 : k ≠ 0 := by omega
  have hqw : IntKind.u64.wrap ((m : Int) / (k : Int)) = (q : Int) := by rw [hq', IntKind.wrap_u64]; omega
  have HO1 : Hid (∀ W : World, Calls Try.prog 34 #[.int .u64 (q : Int)] W fun e w' => MadeN q W e w') := Lib.hid fun W => of_any q (by omega) W
  have HO2 : Hid (∀ W : World, Calls Try.prog 34 #[.int .u64 (t : Int)] W fun e w' => MadeN t W e w') := Lib.hid fun W => of_any t (by omega) W
  rw [hr] at hc0
  rw [hq, ht]
  clear h h' hm hr hq ht hql htl hq' ht' hq''
  go_enter Try.func20, Try.ntmps20
  go_wp2_with (first
    | (go_at_call 18; (with_reducible refine (HC.out _ (Below.refl _ _)).mono ?_); rintro e w1 ⟨rfl, hb⟩; have HB1 := Lib.hid hb; clear hb)
    | (go_at_call 33; (with_reducible refine (hU.out _ HB1.out).mono ?_); rintro e w2 ⟨rfl, hb⟩; have HB2 := Lib.hid (below_chain HB1.out hb); clear hb)
    | (go_at_call 33; (with_reducible refine (hV.out _ HB2.out).mono ?_); rintro e w3 ⟨rfl, hb⟩; have HB3 := Lib.hid (below_chain HB2.out hb); clear hb))
  have hbw := HB3.out
  go_region_held3 (fun w' => Below w.heap.size w w')
    (first
      | assumption
      | exact Below.drew (by assumption)
      | exact below_chain (by assumption) hb4
      | exact below_chain (by assumption) hb5)
    (first
      | (go_at_call 34; (with_reducible refine (HO1.out _).mono ?_); rintro e w4 ⟨A4, c4, rfl, hA4, hcap4, hb4⟩)
      | (go_at_call 34; (with_reducible refine (HO2.out _).mono ?_); rintro e w5 ⟨A5, c5, rfl, hA5, hcap5, hb5⟩))
  all_goals
    go_wp2
    go_ret3
    refine ⟨A4, c4, A5, c5, rfl, ?_, ?_, hcap4, hcap5, ?_⟩ <;> (first | assumption | exact hA4.up hb5 | exact hA5.up hb4)
end Go.Proofs.Ytdflhidhnejbbaa
