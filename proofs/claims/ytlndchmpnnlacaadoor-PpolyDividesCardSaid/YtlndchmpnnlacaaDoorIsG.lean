/- Contracts of prime's helpers: times, power; and how many twos a number has. prime.Is below 2^63: Miller and Rabin's test to the bases 2 to 37, as it is run; and that it passes a prime. -/
import Derived.Test.YtlndchmpnnlacaaDoorFermat
import Derived.Test.YtlndchmpnnlacaaDoorShelf
import Derived.Test.YtlndchmpnnlacaaDoorDivB
import Derived.WalkMore
import Derived.Outline
import Derived.Deep.LoopGhost
namespace Go.Proofs.YtlndchmpnnlacaaDoor
open Go.RowKit

set_option maxHeartbeats 1000000 in
theorem times_any (a b m : Nat) (w : World) (hm : m ≤ 18446744073709551615) (ha : a < m) (hb : b < m) :
    Calls Tryd.prog 93 #[.int .u64 (a : Int), .int .u64 (b : Int), .int .u64 (m : Int)] w fun e w' => e = .returned (.int .u64 ((a * b % m : Nat) : Int)) ∧ ∃ n, w' = w.drewN n := by
  have hab : a * b < m * 18446744073709551616 := by
    have h1 : a * b ≤ m * b := Nat.mul_le_mul_right _ (by omega)
    have h2 : m * b < m * 18446744073709551616 := Nat.mul_lt_mul_of_pos_left (by omega) (by omega)
    omega
  obtain ⟨hi, hhi⟩ : ∃ hi, a * b / 18446744073709551616 = hi := ⟨_, rfl⟩
  obtain ⟨lo, hlo⟩ : ∃ lo, a * b % 18446744073709551616 = lo := ⟨_, rfl⟩
  have hhl : hi < m := by rw [← hhi]; exact (Nat.div_lt_iff_lt_mul (by omega)).2 hab
  have hll : lo ≤ 18446744073709551615 := by omega
  have hdm : hi * 18446744073709551616 + lo = a * b := by omega
  have HM : Hid (∀ W : World, Calls Tryd.prog 95 #[.int .u64 (a : Int), .int .u64 (b : Int)] W fun e w' => e = .returned (.tuple #[.int .u64 (hi : Int), .int .u64 (lo : Int)]) ∧ W = w') := Lib.hid fun W =>
    (Tryd.bits_Mul64 a b (by omega) (by omega) W).mono fun e w' h => ⟨by rw [h.1, hhi, hlo], h.2.symm⟩
  obtain ⟨z, hz⟩ : ∃ z, a * b % m = z := ⟨_, rfl⟩
  obtain ⟨q, hq⟩ : ∃ q, a * b / m = q := ⟨_, rfl⟩
  have HD : Hid (∀ W : World, Calls Tryd.prog 96 #[.int .u64 (hi : Int), .int .u64 (lo : Int), .int .u64 (m : Int)] W fun e w' => e = .returned (.tuple #[.int .u64 (q : Int), .int .u64 (z : Int)]) ∧ ∃ n, w' = W.drewN n) := Lib.hid fun W => by
    have := div64_any hi lo m W hhl hm hll
    rw [hdm, hz, hq] at this
    exact this
  rw [hz]
  clear hab hhi hlo hdm hz hq
  go_enter Tryd.func93, Tryd.ntmps93
  go_wp2_with (first
    | (go_at_call 95; (with_reducible refine (HM.out _).mono ?_); rintro e w' ⟨rfl, rfl⟩)
    | (go_at_call 96; (with_reducible refine (HD.out _).mono ?_); rintro e w' ⟨rfl, n1, rfl⟩))
  go_ret
  exact ⟨rfl, n1, rfl⟩
set_option maxHeartbeats 1000000 in
theorem power_any (a n m : Nat) (w : World) (hm : m ≤ 18446744073709551615) (hm2 : 2 ≤ m) (hal : a ≤ 18446744073709551615) (hn : n ≤ 18446744073709551615) :
    Calls Tryd.prog 92 #[.int .u64 (a : Int), .int .u64 (n : Int), .int .u64 (m : Int)] w fun e w' => e = .returned (.int .u64 ((a ^ n % m : Nat) : Int)) ∧ ∃ k, w' = w.drewN k := by
  obtain ⟨z, hz⟩ : ∃ z, a ^ n % m = z := ⟨_, rfl⟩
  obtain ⟨c, hc⟩ : ∃ c, a % m = c := ⟨_, rfl⟩
  have hcl : c < m := by rw [← hc]; exact Nat.mod_lt _ (by omega)
  have hcz : (a : Int) % (m : Int) = (c : Int) := by rw [← hc, Int.natCast_emod]
  have HZ : Hid (1 * c ^ n % m = z) := Lib.hid (by rw [Nat.one_mul, ← hc, ← Nat.pow_mod]; exact hz)
  have HT : Hid (∀ (x y r : Nat) (W : World), x < m → y < m → x * y % m = r → Calls Tryd.prog 93 #[.int .u64 (x : Int), .int .u64 (y : Int), .int .u64 (m : Int)] W fun e w' => e = .returned (.int .u64 (r : Int)) ∧ ∃ n, w' = W.drewN n) := Lib.hid fun x y r W hx hy hr => by rw [← hr]; exact times_any x y m W hm hx hy
  rw [hz]
  have hm0 : ((m : Int) == 0) = false := by rw [beq_eq_false_iff_ne]; omega
  have hmz : (0 : Int) < (m : Int) := by omega
  clear hz hc
  go_enter Tryd.func92, Tryd.ntmps92
  go_wp2
  go_loopw [7, 0, 1] (fun o b k wr => (∃ x y r : Nat, o = .int .u64 x ∧ b = .int .u64 y ∧ k = .int .u64 r ∧ x < m ∧ y < m ∧ r ≤ 18446744073709551615 ∧ Hid (x * y ^ r % m = z)) ∧ Hid (∃ n, wr = w.drewN n)) (fun _ _ k _ => (intOf k).toNat)
  case atStart => exact ⟨⟨1, c, n, rfl, by rw [hcz], rfl, by omega, hcl, hn, HZ⟩, Lib.hid ⟨0, rfl⟩⟩
  case round =>
    clear HZ hcz
    obtain ⟨⟨x, y, r, rfl, rfl, rfl, hx, hy, hr, HH⟩, HW⟩ := hrel
    by_cases h0 : r = 0
    · subst h0
      have HE : Hid (x = z) := Lib.hid (by have := HH.out; rw [Nat.pow_zero, Nat.mul_one, Nat.mod_eq_of_lt hx] at this; exact this)
      clear HH
      go_wp2
      go_ret
      exact ⟨ret_int (by rw [HE.out]), HW.out⟩
    · have hN := pow_half HH.out
      obtain ⟨y2, hy2⟩ : ∃ y2, y * y % m = y2 := ⟨_, rfl⟩
      have hy2l : y2 < m := by rw [← hy2]; exact Nat.mod_lt _ (by omega)
      have HY := Lib.hid hy2
      have hri : (0 : Int) < (r : Int) := by omega
      have hand := and_one64 r hr
      obtain ⟨t, ht⟩ : ∃ t, r % 2 = t := ⟨_, rfl⟩
      obtain ⟨d, hd⟩ : ∃ d, r / 2 = d := ⟨_, rfl⟩
      have hdd : (r : Int) / 2 = (d : Int) := by omega
      have hdl : d < r := by omega
      rw [ht] at hand
      rw [hy2, ht, hd] at hN
      by_cases h1 : t = 1
      · subst h1
        obtain ⟨x2, hx2⟩ : ∃ x2, x * y % m = x2 := ⟨_, rfl⟩
        have hx2l : x2 < m := by rw [← hx2]; exact Nat.mod_lt _ (by omega)
        have HX := Lib.hid hx2
        have HN := Lib.hid (hN.1 rfl)
        rw [hx2] at HN
        clear hN hx2 hy2 ht hd HH
        go_wp2_with (first
          | (go_at_call 93; (with_reducible refine (HT.out x y x2 _ hx hy HX.out).mono ?_); rintro e w' ⟨rfl, n1, rfl⟩; have HW1 : Hid (∃ n, wr.drewN n1 = w.drewN n) := Lib.hid (by (obtain ⟨n0, h⟩ := HW.out; exact ⟨n0 + n1, by rw [h, World.drewN_drewN]⟩)))
          | (go_at_call 93; (with_reducible refine (HT.out y y y2 _ hy hy HY.out).mono ?_); rintro e w' ⟨rfl, n2, rfl⟩; have HW2 : Hid (∃ n, wr.drewN (n1 + n2) = w.drewN n) := Lib.hid (by (obtain ⟨n0, h⟩ := HW1.out; exact ⟨n0 + n2, by rw [← World.drewN_drewN, h, World.drewN_drewN]⟩))))
        go_roundw
        case rel => exact ⟨⟨x2, y2, d, rfl, rfl, rfl, hx2l, hy2l, by omega, HN⟩, HW2⟩
        case measure => simp [intOf]; omega
      · obtain rfl : t = 0 := by omega
        have HN := Lib.hid (hN.2 rfl)
        clear hN hy2 ht hd HH h1
        go_wp2_with (go_at_call 93; (with_reducible refine (HT.out y y y2 _ hy hy HY.out).mono ?_); rintro e w' ⟨rfl, n2, rfl⟩; have HW2 : Hid (∃ n, wr.drewN n2 = w.drewN n) := Lib.hid (by (obtain ⟨n0, h⟩ := HW.out; exact ⟨n0 + n2, by rw [h, World.drewN_drewN]⟩)))
        go_roundw
        case rel => exact ⟨⟨x, y2, d, rfl, rfl, rfl, hx, hy2l, by omega, HN⟩, HW2⟩
        case measure => simp [intOf]; omega
def tab64 : List Nat := [0, 1, 56, 2, 57, 49, 28, 3, 61, 58, 42, 50, 38, 29, 17, 4, 62, 47, 59, 36, 45, 43, 51, 22, 53, 39, 33, 30, 24, 18, 12, 5, 63, 55, 48, 27, 60, 41, 37, 16, 46, 35, 44, 21, 52, 32, 23, 11, 54, 26, 40, 15, 34, 20, 31, 10, 25, 14, 19, 9, 13, 8, 7, 6]
theorem tab64_at : ∀ t, t < 64 → tab64.getD (2 ^ t * 285870213051353865 % 18446744073709551616 / 288230376151711744) 0 = t ∧ 2 ^ t * 285870213051353865 % 18446744073709551616 / 288230376151711744 < 64 := by decide +kernel
/-- The table of math/bits as it is laid. -/
def TabG (w : World) : Prop := ∀ j, j < 64 → w.cell? ⟨0, j, none⟩ = some (.int .u8 ((tab64.getD j 0 : Nat) : Int))
theorem TabG.up {w w' : World} (h : TabG w) (hb : Below w.heap.size w w') : TabG w' := fun j hj => (hb.cell (World.block_lt_of_cell? w _ (h j hj))).trans (h j hj)
theorem TabG.drewN {w : World} (h : TabG w) (n : Nat) : TabG (w.drewN n) := h.up (below_drewN (Below.refl _ _) n)
theorem and_neg64 {x o t : Nat} (hx : x = o * 2 ^ t) (ho : o % 2 = 1) (hl : x < 18446744073709551616) : bits .and .u64 (x : Int) (IntKind.u64.wrap (-(x : Int))) = ((2 ^ t : Nat) : Int) := by
  have hx0 : 0 < x := by rw [hx]; exact Nat.mul_pos (by omega) (Nat.pow_pos (by omega))
  have e0 : IntKind.u64.wrap (-(x : Int)) = ((18446744073709551616 - x : Nat) : Int) := by rw [IntKind.wrap_u64]; omega
  have hlow := low_one (n := 64) hx ho hl
  rw [e0]
  show IntKind.u64.wrap ((BitVec.ofInt 64 (x : Int) &&& BitVec.ofInt 64 ((18446744073709551616 - x : Nat) : Int)).toNat : Int) = _
  have e : (BitVec.ofInt 64 (x : Int) &&& BitVec.ofInt 64 ((18446744073709551616 - x : Nat) : Int)).toNat = 2 ^ t := by
    rw [BitVec.toNat_and, BitVec.ofInt_natCast, BitVec.ofInt_natCast, BitVec.toNat_ofNat, BitVec.toNat_ofNat, Nat.mod_eq_of_lt (by omega), Nat.mod_eq_of_lt (by omega)]
    exact hlow
  rw [e, IntKind.wrap_u64]
  have : 2 ^ t ≤ x := by rw [hx]; exact Nat.le_mul_of_pos_left _ (by omega)
  omega
theorem tz64 (x o t : Nat) (w : World) (hg : TabG w) (hx : x = o * 2 ^ t) (ho : o % 2 = 1) (hl : x < 18446744073709551616) :
    Calls Tryd.prog 91 #[.int .u64 (x : Int)] w fun e w' => e = .returned (.int .i64 (t : Int)) ∧ w = w' := by
  have hx0 : 0 < x := by rw [hx]; exact Nat.mul_pos (by omega) (Nat.pow_pos (by omega))
  have ht64 : t < 64 := by
    rcases Nat.lt_or_ge t 64 with h | h
    · exact h
    · have h1 := Nat.pow_le_pow_right (show 0 < 2 by omega) h
      have h2 : 1 * 2 ^ t ≤ o * 2 ^ t := Nat.mul_le_mul_right _ (by omega)
      omega
  have hb := and_neg64 hx ho hl
  obtain ⟨hv1, hv2⟩ := tab64_at t ht64
  obtain ⟨y, hy⟩ : ∃ y, 2 ^ t = y := ⟨_, rfl⟩
  rw [hy] at hb hv1 hv2
  obtain ⟨v, hv⟩ : ∃ v, y * 285870213051353865 % 18446744073709551616 = v := ⟨_, rfl⟩
  rw [hv] at hv1 hv2
  obtain ⟨i, hi⟩ : ∃ i, v / 288230376151711744 = i := ⟨_, rfl⟩
  rw [hi] at hv1 hv2
  have hc := hg i hv2
  rw [hv1] at hc
  have hw : IntKind.u64.wrap ((y : Int) * 285870213051353865) = (v : Int) := by rw [IntKind.wrap_u64, ← hv]; omega
  have hi' : (v : Int) / 288230376151711744 = (i : Int) := by rw [← hi]; omega
  have hne : ((x : Int) == 0) = false := by rw [beq_eq_false_iff_ne]; omega
  have hi0 : (0 : Int) ≤ (i : Int) := by omega
  have hi1 : (i : Int) < 64 := by omega
  have ht0 : (0 : Int) ≤ (t : Int) := by omega
  have ht1 : (t : Int) ≤ 63 := by omega
  clear hg hx hl hy hv hi hv1
  go_enter Tryd.func91, Tryd.ntmps91
  go_wp2
  go_ret
  exact ⟨rfl, rfl⟩
end Go.Proofs.YtlndchmpnnlacaaDoor

namespace Go.Proofs.YtlndchmpnnlacaaDoor
open Go.RowKit
def bases : List Nat := [2, 3, 5, 7, 11, 13, 17, 19, 23, 29, 31, 37]
def divB (n : Nat) : List Nat → Option Bool
  | [] => none
  | b :: bs => if n % b = 0 then some (decide (n = b)) else divB n bs
def mrOne (n o t b : Nat) : Bool := decide (b ^ o % n = 1) || mrRow n t (b ^ o % n)
def mrAll (n o t : Nat) : List Nat → Bool
  | [] => true
  | b :: bs => if mrOne n o t b = true then mrAll n o t bs else false
/-- What Is says of n, n - 1 being o times 2 to the t. -/
def isMR (n o t : Nat) : Bool := if n < 2 then false else (divB n bases).getD (mrAll n o t bases)
theorem bases_at : ∀ i, i < 12 → bases.drop i = bases.getD i 0 :: bases.drop (i + 1) ∧ 2 ≤ bases.getD i 0 ∧ bases.getD i 0 ≤ 37 := by decide
theorem index_at : ∀ (i : Nat), i < 12 → ∀ W : World, (Instr.index 95 (.agg #[.int .u64 2, .int .u64 3, .int .u64 5, .int .u64 7, .int .u64 11, .int .u64 13, .int .u64 17, .int .u64 19, .int .u64 23, .int .u64 29, .int .u64 31, .int .u64 37]) (.int .i64 (i : Int))).run Tryd.prog W = .ok (.int .u64 ((bases.getD i 0 : Nat) : Int)) W
  | 0, _, _ => by kernel_rfl
  | 1, _, _ => by kernel_rfl
  | 2, _, _ => by kernel_rfl
  | 3, _, _ => by kernel_rfl
  | 4, _, _ => by kernel_rfl
  | 5, _, _ => by kernel_rfl
  | 6, _, _ => by kernel_rfl
  | 7, _, _ => by kernel_rfl
  | 8, _, _ => by kernel_rfl
  | 9, _, _ => by kernel_rfl
  | 10, _, _ => by kernel_rfl
  | 11, _, _ => by kernel_rfl
  | n + 12, h, _ => absurd h (by omega)
set_option maxHeartbeats 8000000 in
theorem is_gen (n o t : Nat) (w : World) (hg : TabG w) (hn : n ≤ 9223372036854775807) (ho : n - 1 = o * 2 ^ t) (ho1 : o % 2 = 1) (hn2 : 2 ≤ n) :
    Calls Tryd.prog 86 #[.int .u64 (n : Int)] w fun e w' => e = .returned (.bool (isMR n o t)) ∧ Below w.heap.size w w' := by
  obtain ⟨res, hres⟩ : ∃ res, isMR n o t = res := ⟨_, rfl⟩
  have hres2 : (divB n (bases.drop 0)).getD (mrAll n o t bases) = res := by rw [← hres]; unfold isMR; rw [if_neg (by omega), List.drop_zero]
  rw [hres]
  obtain ⟨n1, hn1⟩ : ∃ n1, n - 1 = n1 := ⟨_, rfl⟩
  rw [hn1] at ho
  have hsub : (n : Int) - 1 = (n1 : Int) := by omega
  have hn1p : 0 < n1 := by omega
  have ht64 : t < 64 := by
    rcases Nat.lt_or_ge t 64 with h | h
    · exact h
    · have h1 := Nat.pow_le_pow_right (show 0 < 2 by omega) h
      have h2 : 1 * 2 ^ t ≤ o * 2 ^ t := Nat.mul_le_mul_right _ (by omega)
      omega
  have hol : o ≤ n1 := by rw [ho]; exact Nat.le_mul_of_pos_right _ (Nat.pow_pos (by omega))
  have hsh : (n1 : Int) / 2 ^ t = (o : Int) := by
    rw [ho, Int.natCast_mul, Int.natCast_pow]
    exact Int.mul_ediv_cancel _ (by have := Nat.pow_pos (n := t) (show 0 < 2 by omega); rw [← Int.natCast_pow]; omega)
  have HTZ : Hid (∀ W : World, TabG W → Calls Tryd.prog 91 #[.int .u64 (n1 : Int)] W fun e w' => e = .returned (.int .i64 (t : Int)) ∧ W = w') := Lib.hid fun W h => tz64 n1 o t W h ho ho1 (by omega)
  have HPW : Hid (∀ (b z : Nat) (W : World), b ≤ 37 → b ^ o % n = z → Calls Tryd.prog 92 #[.int .u64 (b : Int), .int .u64 (o : Int), .int .u64 (n : Int)] W fun e w' => e = .returned (.int .u64 (z : Int)) ∧ ∃ k, w' = W.drewN k) := Lib.hid fun b z W hb hz => by rw [← hz]; exact power_any b o n W (by omega) hn2 (by omega) (by omega)
  have HTI : Hid (∀ (x z : Nat) (W : World), x < n → x * x % n = z → Calls Tryd.prog 93 #[.int .u64 (x : Int), .int .u64 (x : Int), .int .u64 (n : Int)] W fun e w' => e = .returned (.int .u64 (z : Int)) ∧ ∃ k, w' = W.drewN k) := Lib.hid fun x z W hx hz => by rw [← hz]; exact times_any x x n W (by omega) hx hx
  have HR := Lib.hid hres2
  have HG := Lib.hid hg
  have HIX := Lib.hid index_at
  have HN1 := Lib.hid hn1
  have c1 : ¬ (n : Int) < 2 := by omega
  have hni : (n : Int) ≤ 9223372036854775807 := by omega
  have HSH := Lib.hid hsh
  have HSUB := Lib.hid hsub
  clear hsh hsub
  have ct0 : (0 : Int) ≤ (t : Int) := by omega
  have ct1 : (t : Int) ≤ 63 := by omega
  clear hres hres2 ho ho1 hg hol hn1
  go_enter Tryd.func86, Tryd.ntmps86
  go_wp2
  go_step3
  go_wp2
  go_loop [19] (fun i => ∃ k : Nat, i = .int .i64 k ∧ k ≤ 12 ∧ Hid ((divB n (bases.drop k)).getD (mrAll n o t bases) = res)) (fun i => 12 - (intOf i).toNat)
  case atStart => exact ⟨0, rfl, by omega, HR⟩
  case round =>
    clear HR
    obtain ⟨k, rfl, hk, HR⟩ := hrel
    by_cases hlt : k < 12
    · obtain ⟨b1, b2, b3⟩ := bases_at k hlt
      have hix := HIX.out k hlt
      have hR := HR.out
      rw [b1] at hR
      obtain ⟨b, hb⟩ : ∃ b, bases.getD k 0 = b := ⟨_, rfl⟩
      rw [hb] at hix hR b2 b3
      have hb0 : ((b : Int) == 0) = false := by rw [beq_eq_false_iff_ne]; omega
      have hlti : (k : Int) < 12 := by omega
      by_cases hd : n % b = 0
      · have hdi : ((n : Int) % (b : Int) == 0) = true := by rw [← Int.natCast_emod, hd]; rfl
        have hS : decide (n = b) = res := by
          have : divB n (b :: bases.drop (k + 1)) = some (decide (n = b)) := by show (if n % b = 0 then _ else _) = _; rw [if_pos hd]
          rw [this] at hR
          exact hR
        have HS := Lib.hid hS
        by_cases hnb : n = b
        · have hnbi : ((n : Int) == (b : Int)) = true := by rw [hnb]; simp
          have HT : Hid (true = res) := Lib.hid (by rw [← hS]; simp [hnb])
          clear hR HR b1 hb hd hS HS hnb
          go_wp2
          (try rw [Exit.noGoto_ret])
          go_ret
          exact ⟨ret_bool HT.out, by go_grown⟩
        · have hnbi : ((n : Int) == (b : Int)) = false := by rw [beq_eq_false_iff_ne]; omega
          have HT : Hid (false = res) := Lib.hid (by rw [← hS]; simp [hnb])
          clear hR HR b1 hb hd hS HS hnb
          go_wp2
          (try rw [Exit.noGoto_ret])
          go_ret
          exact ⟨ret_bool HT.out, by go_grown⟩
      · have hdi : ((n : Int) % (b : Int) == 0) = false := by rw [beq_eq_false_iff_ne, ← Int.natCast_emod]; omega
        have HS : Hid ((divB n (bases.drop (k + 1))).getD (mrAll n o t bases) = res) := Lib.hid (by
          have : divB n (b :: bases.drop (k + 1)) = divB n (bases.drop (k + 1)) := by show (if n % b = 0 then _ else _) = _; rw [if_neg hd]
          rw [this] at hR
          exact hR)
        clear hR HR b1 hb hd
        go_wp2
        go_round
        case rel => exact ⟨k + 1, by go_num, by omega, HS⟩
        case measure => simp [intOf]; omega
    · obtain rfl : k = 12 := by omega
      have HM : Hid (mrAll n o t (bases.drop 0) = res) := HR
      clear HR hlt
      have hsub := HSUB.out
      have hsh := HSH.out
      go_wp2_with (go_at_call 91; (with_reducible refine (HTZ.out _ (HG.out.up (by go_grown))).mono ?_); rintro e w' ⟨rfl, rfl⟩)
      go_step3
      go_wp2
      have HB0 : Hid (∀ o : Obj, Below w.heap.size w (w.alloc o)) := Lib.hid fun o => (Below.refl _ _).alloc (Nat.le_refl _) o
      go_loopg [39] 12 (fun g i wr => ∃ k : Nat, k + g = 12 ∧ i = .int .i64 k ∧ Hid (mrAll n o t (bases.drop k) = res) ∧ Hid (Below w.heap.size w wr))
      case atStart => exact ⟨0, by omega, rfl, HM, Lib.hid (HB0.out _)⟩
      case round =>
        obtain ⟨k, hkg, rfl, HR, HB⟩ := hrel
        obtain ⟨wo, rfl⟩ : ∃ wo : World, wo = wr := ⟨_, rfl⟩
        cases gk with
        | zero =>
          have hge : ¬ (k : Int) < 12 := by omega
          have HT : Hid (true = res) := Lib.hid (by rw [← HR.out, List.drop_eq_nil_of_le (by show 12 ≤ k; omega)]; rfl)
          go_wp2
          (try rw [Exit.noGoto_ret])
          go_ret
          exact ⟨ret_bool HT.out, HB.out⟩
        | succ g =>
          have hlt : k < 12 := by omega
          have hlti : (k : Int) < 12 := by omega
          obtain ⟨b1, b2, b3⟩ := bases_at k hlt
          have hix := HIX.out k hlt
          have hR := HR.out
          rw [b1] at hR
          obtain ⟨b, hb⟩ : ∃ b, bases.getD k 0 = b := ⟨_, rfl⟩
          rw [hb] at hix hR b2 b3
          obtain ⟨z, hz⟩ : ∃ z, b ^ o % n = z := ⟨_, rfl⟩
          have hzl : z < n := by rw [← hz]; exact Nat.mod_lt _ (by omega)
          have HZ := Lib.hid hz
          have hR2 : (if (decide (z = 1) || mrRow n t z) = true then mrAll n o t (bases.drop (k + 1)) else false) = res := by
            rw [← hz]; exact hR
          by_cases hz1 : z = 1
          · have HN : Hid (mrAll n o t (bases.drop (k + 1)) = res) := Lib.hid (by rw [← hR2, if_pos (by simp [hz1])])
            have hzi : ((z : Int) == 1) = true := by rw [hz1]; rfl
            clear hR hR2 hz hz1 b1 hb HR
            go_wp2_with (go_at_call 92; (with_reducible refine (HPW.out b z _ b3 HZ.out).mono ?_); rintro e w' ⟨rfl, n2, rfl⟩; have HB2 := Lib.hid (below_drewN HB.out n2))
            go_roundg g
            case measure => omega
            case rel => exact ⟨k + 1, by omega, by go_num, HN, HB2⟩
          · have hzi : ((z : Int) == 1) = false := by rw [beq_eq_false_iff_ne]; omega
            have HR2 : Hid ((if mrRow n t z = true then mrAll n o t (bases.drop (k + 1)) else false) = res) := Lib.hid (by rw [← hR2]; simp [hz1])
            clear hR hR2 hz hz1 b1 hb HR
            go_wp2_with (go_at_call 92; (with_reducible refine (HPW.out b z _ b3 HZ.out).mono ?_); rintro e w' ⟨rfl, n2, rfl⟩; have HB2 := Lib.hid (below_drewN HB.out n2))
            go_loopg [49, 10] t (fun g2 c x wy => ∃ j y : Nat, j + g2 = t ∧ c = .int .i64 j ∧ x = .int .u64 y ∧ y < n ∧ Hid (mrRow n (t - j) y = mrRow n t z) ∧ Hid (Below w.heap.size w wy))
            case atStart => exact ⟨0, z, by omega, rfl, rfl, hzl, Lib.hid (by rw [Nat.sub_zero]), HB2⟩
            case round =>
              obtain ⟨j, y, hjg, rfl, rfl, hyl, HY, HBY⟩ := hrel
              obtain ⟨wi, rfl⟩ : ∃ wi : World, wi = wr := ⟨_, rfl⟩
              cases gk with
              | zero =>
                have hjz : ¬ (j : Int) < (t : Int) := by omega
                have HF : Hid (mrRow n t z = false) := Lib.hid (by rw [← HY.out, show t - j = 0 by omega]; rfl)
                have HT : Hid (false = res) := Lib.hid (by rw [← HR2.out, HF.out]; rfl)
                clear hix
                go_wp2
                (try rw [Exit.noGoto_ret])
                go_ret
                exact ⟨ret_bool HT.out, HBY.out⟩
              | succ g2 =>
                have hjz : (j : Int) < (t : Int) := by omega
                have hstep : (if y = n1 then true else mrRow n (t - (j + 1)) (y * y % n)) = mrRow n t z := by
                  rw [← HY.out, show t - j = (t - (j + 1)) + 1 by omega]
                  show _ = (if y = n - 1 then true else mrRow n (t - (j + 1)) (y * y % n))
                  rw [HN1.out]
                by_cases hy1 : y = n1
                · have HN : Hid (mrAll n o t (bases.drop (k + 1)) = res) := Lib.hid (by
                    rw [if_pos hy1] at hstep
                    rw [← HR2.out, ← hstep]; rfl)
                  have hyi : ((y : Int) == (n1 : Int)) = true := by rw [hy1]; simp
                  clear hstep hix hy1
                  go_wp2
                  go_roundg g
                  case measure => omega
                  case rel => exact ⟨k + 1, by omega, by go_num, HN, HBY⟩
                · have HN : Hid (mrRow n (t - (j + 1)) (y * y % n) = mrRow n t z) := Lib.hid (by rw [if_neg hy1] at hstep; exact hstep)
                  obtain ⟨y2, hy2⟩ : ∃ y2, y * y % n = y2 := ⟨_, rfl⟩
                  have hy2l : y2 < n := by rw [← hy2]; exact Nat.mod_lt _ (by omega)
                  rw [hy2] at HN
                  have HY2 := Lib.hid hy2
                  have hyi : ((y : Int) == (n1 : Int)) = false := by rw [beq_eq_false_iff_ne]; omega
                  clear hstep hix hy1 hy2
                  go_wp2_with (go_at_call 93; (with_reducible refine (HTI.out y y2 _ hyl HY2.out).mono ?_); rintro e w' ⟨rfl, n3, rfl⟩; have HB3 := Lib.hid (below_drewN HBY.out n3))
                  go_roundg g2
                  case measure => omega
                  case rel => exact ⟨j + 1, y2, by omega, by go_num, rfl, hy2l, HN, HB3⟩
theorem is_low (n : Nat) (hn : n < 2) (w : World) : Calls Tryd.prog 86 #[.int .u64 (n : Int)] w fun e w' => e = .returned (.bool false) ∧ Below w.heap.size w w' := by
  have h : (n : Int) < 2 := by omega
  go_enter Tryd.func86, Tryd.ntmps86
  go_wp2
  (try go_step3)
  (try go_wp2)
  (try rw [Exit.noGoto_ret])
  go_ret
  exact ⟨rfl, by go_grown⟩
/-- A prime passes. -/
theorem divB_prime {p : Nat} (h : PrimeN p) : ∀ l : List Nat, (∀ b ∈ l, 2 ≤ b) → divB p l = none ∧ (∀ b ∈ l, p % b ≠ 0) ∨ divB p l = some true
  | [], _ => .inl ⟨rfl, fun b hb => by cases hb⟩
  | b :: bs, hl => by
    unfold divB
    by_cases hd : p % b = 0
    · right
      rw [if_pos hd]
      have hb := hl b (by simp)
      rcases h.2 b (Nat.dvd_of_mod_eq_zero hd) with h1 | h1
      · omega
      · simp [h1]
    · rw [if_neg hd]
      rcases divB_prime h bs (fun x hx => hl x (by simp [hx])) with ⟨h1, h2⟩ | h1
      · left
        refine ⟨h1, fun x hx => ?_⟩
        rcases List.mem_cons.1 hx with rfl | hx
        · exact hd
        · exact h2 x hx
      · exact .inr h1
theorem mrAll_prime {p o t : Nat} (h : PrimeN p) (he : p - 1 = o * 2 ^ t) : ∀ l : List Nat, (∀ b ∈ l, b % p ≠ 0) → mrAll p o t l = true
  | [], _ => rfl
  | b :: bs, hl => by
    unfold mrAll
    have h1 : mrOne p o t b = true := by
      unfold mrOne
      rcases h.mr_passes (hl b (by simp)) he with h2 | h2
      · simp [h2]
      · simp [h2]
    rw [if_pos h1]
    exact mrAll_prime h he bs fun x hx => hl x (by simp [hx])
theorem isMR_prime {p o t : Nat} (h : PrimeN p) (he : p - 1 = o * 2 ^ t) : isMR p o t = true := by
  unfold isMR
  rw [if_neg (by have := h.1; omega)]
  rcases divB_prime h bases (by decide) with ⟨h1, h2⟩ | h1
  · rw [h1]
    refine mrAll_prime h he bases fun b hb e => ?_
    have hd := Nat.dvd_of_mod_eq_zero e
    have hp := h2 b hb
    have hbp : ∀ b ∈ bases, ∀ d, d ∣ b → d = 1 ∨ d = b := by
      intro b hb d hd
      have hle := Nat.le_of_dvd ((show ∀ b ∈ bases, 0 < b by decide) b hb) hd
      have : ∀ b ∈ bases, ∀ d, d ≤ b → b % d = 0 → d = 1 ∨ d = b := by decide
      exact this b hb d hle (Nat.mod_eq_zero_of_dvd hd)
    rcases hbp b hb p hd with h3 | h3
    · have := h.1; omega
    · rw [h3, Nat.mod_self] at hp
      exact hp rfl
  · rw [h1]; rfl
theorem is_prime (p : Nat) (w : World) (hg : TabG w) (h : PrimeN p) (hp : p ≤ 9223372036854775807) : Calls Tryd.prog 86 #[.int .u64 (p : Int)] w fun e w' => e = .returned (.bool true) ∧ Below w.heap.size w w' := by
  have h2 := h.1
  obtain ⟨o, t, he, ho⟩ := twos_of (p - 1) (by omega)
  have := is_gen p o t w hg hp he ho h2
  rwa [isMR_prime h he] at this
end Go.Proofs.YtlndchmpnnlacaaDoor
