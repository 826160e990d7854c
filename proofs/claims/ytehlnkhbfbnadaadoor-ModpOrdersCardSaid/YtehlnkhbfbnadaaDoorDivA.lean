/- Contracts: math/bits.Div64, by its own text. -/
import Derived.Test.YtehlnkhbfbnadaaDoorBitsC
import Derived.WalkMore
import Derived.Deep.CutBlock
import Derived.Deep.DeepCutAuto
import Derived.Deep.LoopGhost
namespace Go.Proofs.YtehlnkhbfbnadaaDoor
open Go.RowKit

theorem dl_exit {q r u d Y n1 n0 B T : Nat} (hY : Y = n1 * B + n0) (hT : T = u * B + d) (hinv : q * n1 + r = u) (hY0 : 0 < Y) (hq : T / Y ≤ q) (h : q * n0 ≤ B * r + d) : T / Y = q := by
  refine Nat.le_antisymm hq ((Nat.le_div_iff_mul_le hY0).2 ?_)
  have e1 : q * Y = q * n1 * B + q * n0 := by rw [hY, Nat.mul_add, Nat.mul_assoc]
  have e2 : T = q * n1 * B + B * r + d := by rw [hT, ← hinv, Nat.add_mul, Nat.mul_comm r B]
  omega
theorem dl_round {q r u d Y n1 n0 B T : Nat} (hY : Y = n1 * B + n0) (hT : T = u * B + d) (hinv : q * n1 + r = u) (hY0 : 0 < Y) (hTB : T / Y < B) (h : B ≤ q ∨ B * r + d < q * n0) : T / Y + 1 ≤ q := by
  rcases h with h | h
  · omega
  · have e1 : q * Y = q * n1 * B + q * n0 := by rw [hY, Nat.mul_add, Nat.mul_assoc]
    have e2 : T = q * n1 * B + B * r + d := by rw [hT, ← hinv, Nat.add_mul, Nat.mul_comm r B]
    exact (Nat.div_lt_iff_lt_mul hY0).2 (by omega)
theorem dl_break {q r u d Y n1 n0 B T : Nat} (hY : Y = n1 * B + n0) (hT : T = u * B + d) (hinv : q * n1 + r = u) (hY0 : 0 < Y) (hq : T / Y ≤ q) (hr : B ≤ r) (hqB : q ≤ B) (hn0 : n0 ≤ B) : T / Y = q := by
  refine dl_exit hY hT hinv hY0 hq ?_
  have h1 : q * n0 ≤ B * B := Nat.mul_le_mul hqB hn0
  have h2 : B * B ≤ B * r := Nat.mul_le_mul_left _ hr
  omega
theorem dl_guess {u n1 n0 B : Nat} (hu : u < n1 * B + n0) (hn0 : n0 < B) (h1 : 2 * n1 ≥ B) (hB : 2 ≤ B) : u / n1 ≤ B + 1 := by
  have : u < (B + 2) * n1 := by rw [Nat.add_mul, Nat.mul_comm B]; omega
  have := (Nat.div_lt_iff_lt_mul (by omega : 0 < n1)).2 this
  omega
theorem dl_lt {u d Y B T : Nat} (hT : T = u * B + d) (hd : d < B) (hu : u < Y) : T / Y < B := by
  rw [Nat.div_lt_iff_lt_mul (by omega), hT]
  have : (u + 1) * B ≤ Y * B := Nat.mul_le_mul_right _ hu
  rw [Nat.add_mul] at this
  rw [Nat.mul_comm B Y]
  omega
theorem dl_up {hi lo s M : Nat} (hs : s ≤ 64) (hM : M = hi * 18446744073709551616 + lo) :
    (hi * 2 ^ s + lo / 2 ^ (64 - s)) * 18446744073709551616 + lo * 2 ^ s % 18446744073709551616 = M * 2 ^ s := by
  have e : lo / 2 ^ (64 - s) = lo * 2 ^ s / 18446744073709551616 := by
    rw [show (18446744073709551616 : Nat) = 2 ^ (64 - s) * 2 ^ s by rw [← Nat.pow_add, Nat.sub_add_cancel hs]]
    rw [Nat.mul_div_mul_right _ _ (Nat.pow_pos (by omega))]
  have h := Nat.mod_add_div (lo * 2 ^ s) 18446744073709551616
  rw [e, hM, Nat.add_mul, Nat.add_mul, Nat.mul_right_comm]
  omega
theorem dl_final {M y P u l d1 d0 B Y T Q1 V T2 Q0 R : Nat} (hN : u * (B * B) + l = M * P) (hl : l = d1 * B + d0) (hY : Y = y * P) (hP : 0 < P) (hy : 0 < y) (hT : T = u * B + d1) (h1 : T / Y = Q1) (h2 : T % Y = V) (hT2 : T2 = V * B + d0) (h3 : T2 / Y = Q0) (h4 : T2 % Y = R) :
    M / y = Q1 * B + Q0 ∧ M % y = R / P := by
  have hY0 : 0 < Y := by rw [hY]; exact Nat.mul_pos hy hP
  have e1 := Nat.div_add_mod T Y
  have e2 := Nat.div_add_mod T2 Y
  have hR : R < Y := by rw [← h4]; exact Nat.mod_lt _ hY0
  rw [h1, h2] at e1
  rw [h3, h4] at e2
  have e3 : M * P = (Q1 * B + Q0) * Y + R := by
    rw [← hN, hl]
    have a1 : u * (B * B) + d1 * B = T * B := by rw [hT, Nat.add_mul, Nat.mul_assoc]
    have a2 : T * B = Y * Q1 * B + V * B := by rw [← e1, Nat.add_mul]
    have a3 : (Q1 * B + Q0) * Y = Y * Q1 * B + Y * Q0 := by rw [Nat.add_mul, Nat.mul_right_comm, Nat.mul_comm Q1 Y, Nat.mul_comm Q0 Y]
    omega
  have d := Nat.mul_div_mul_right M y hP
  have m := Nat.mul_mod_mul_right P M y
  rw [← hY, e3] at d m
  constructor
  · rw [← d, Nat.add_comm, Nat.add_mul_div_right _ _ hY0, Nat.div_eq_of_lt hR, Nat.zero_add]
  · rw [Nat.add_comm, Nat.add_mul_mod_self_right, Nat.mod_eq_of_lt hR] at m
    rw [m, Nat.mul_div_cancel _ hP]
theorem or_free2 {r p m : Nat} (hp : p < 2 ^ r) : 2 ^ r * m ||| p = p + 2 ^ r * m := by
  rw [← Nat.two_pow_add_eq_or_of_lt hp m, Nat.add_comm]

theorem bitLenAux_low : ∀ (f x : Nat), 0 < x → x < 2 ^ f → 2 ^ Lib.bitLenAux f x ≤ 2 * x
  | 0, x, h0, h => by rw [Nat.pow_zero] at h; omega
  | f + 1, x, h0, h => by
    unfold Lib.bitLenAux
    rw [if_neg (by omega)]
    rcases Nat.eq_zero_or_pos (x / 2) with h1 | h1
    · have e : Lib.bitLenAux f (x / 2) = 0 := by
        rw [h1]
        cases f with
        | zero => rfl
        | succ f => unfold Lib.bitLenAux; rw [if_pos rfl]
      rw [e]
      omega
    · have := bitLenAux_low f (x / 2) h1 (by rw [Nat.pow_succ] at h; omega)
      rw [Nat.add_comm, Nat.pow_succ]
      omega
theorem bits_and_low (n : Nat) (h : n < 18446744073709551616) : bits .and .u64 (n : Int) 4294967295 = ((n % 4294967296 : Nat) : Int) := by
  show IntKind.u64.wrap ((BitVec.ofInt 64 (n : Int) &&& BitVec.ofInt 64 4294967295).toNat : Int) = _
  have e : (BitVec.ofInt 64 (n : Int) &&& BitVec.ofInt 64 4294967295).toNat = n % 4294967296 := by
    rw [BitVec.toNat_and, BitVec.ofInt_natCast, BitVec.toNat_ofNat, Nat.mod_eq_of_lt (by omega)]
    exact Nat.and_two_pow_sub_one_eq_mod n 32
  rw [e, IntKind.wrap_u64]
  omega
theorem u64_wrap_nat {x : Int} {n : Nat} (h : x = n) (hn : n < 18446744073709551616) : IntKind.u64.wrap x = (n : Int) := by rw [h, IntKind.wrap_u64]; omega

/-- What stands at the head of the long division. -/
theorem div_head (hi lo y s : Nat) (h1 : hi < y) (hlo : lo < 18446744073709551616) (hs : s ≤ 64) (hy1 : y * 2 ^ s < 18446744073709551616) (hy2 : 9223372036854775808 ≤ y * 2 ^ s) :
    ∃ Y n1 n0 H k L u l d1 d0 g p r : Nat, IntKind.u64.wrap ((y : Int) * 2 ^ s) = (Y : Int) ∧ Y ≤ 18446744073709551615 ∧ (Y : Int) / 4294967296 = (n1 : Int) ∧ bits .and .u64 (Y : Int) 4294967295 = (n0 : Int) ∧
      IntKind.u64.wrap ((hi : Int) * 2 ^ s) = (H : Int) ∧ (64 : Int) - (s : Int) = (k : Int) ∧ (lo : Int) / 2 ^ k = (L : Int) ∧ bits .or .u64 (H : Int) (L : Int) = (u : Int) ∧ IntKind.u64.wrap ((lo : Int) * 2 ^ s) = (l : Int) ∧
      (l : Int) / 4294967296 = (d1 : Int) ∧ bits .and .u64 (l : Int) 4294967295 = (d0 : Int) ∧ (u : Int) / (n1 : Int) = (g : Int) ∧ (g : Int) * (n1 : Int) = (p : Int) ∧ (u : Int) - (p : Int) = (r : Int) ∧
      Y = y * 2 ^ s ∧ Y = n1 * 4294967296 + n0 ∧ n0 < 4294967296 ∧ 2147483648 ≤ n1 ∧ n1 < 4294967296 ∧ u < Y ∧ l = d1 * 4294967296 + d0 ∧ d1 < 4294967296 ∧ d0 < 4294967296 ∧
      u * (4294967296 * 4294967296) + l = (hi * 18446744073709551616 + lo) * 2 ^ s ∧ g * n1 + r = u ∧ r < n1 ∧ g ≤ 4294967297 ∧ g = u / n1 ∧ l ≤ 18446744073709551615 ∧ p ≤ u := by
  have hH : hi * 2 ^ s < y * 2 ^ s := Nat.mul_lt_mul_of_pos_right h1 (Nat.pow_pos (by omega))
  have hL : lo / 2 ^ (64 - s) < 2 ^ s := by
    rw [Nat.div_lt_iff_lt_mul (Nat.pow_pos (by omega)), ← Nat.pow_add, show s + (64 - s) = 64 by omega]
    exact hlo
  have hup := dl_up (hi := hi) (lo := lo) (s := s) hs rfl
  have hHL : hi * 2 ^ s + 2 ^ s ≤ y * 2 ^ s := by
    rw [← Nat.succ_mul]
    exact Nat.mul_le_mul_right _ h1
  generalize hYe : y * 2 ^ s = Y at *
  have hu : bits .or .u64 ((hi * 2 ^ s : Nat) : Int) ((lo / 2 ^ (64 - s) : Nat) : Int) = ((hi * 2 ^ s + lo / 2 ^ (64 - s) : Nat) : Int) := by
    rw [bits_or_u64_nat _ _ (by omega) (by omega), Nat.mul_comm hi, or_free2 hL, Nat.add_comm]
  refine ⟨Y, Y / 4294967296, Y % 4294967296, hi * 2 ^ s, 64 - s, lo / 2 ^ (64 - s), hi * 2 ^ s + lo / 2 ^ (64 - s), lo * 2 ^ s % 18446744073709551616, lo * 2 ^ s % 18446744073709551616 / 4294967296, lo * 2 ^ s % 18446744073709551616 % 4294967296,
    (hi * 2 ^ s + lo / 2 ^ (64 - s)) / (Y / 4294967296), (hi * 2 ^ s + lo / 2 ^ (64 - s)) / (Y / 4294967296) * (Y / 4294967296), (hi * 2 ^ s + lo / 2 ^ (64 - s)) % (Y / 4294967296), ?_⟩
  generalize hue : hi * 2 ^ s + lo / 2 ^ (64 - s) = u at *
  generalize hle : lo * 2 ^ s % 18446744073709551616 = l at *
  have hl2 : l < 18446744073709551616 := by rw [← hle]; exact Nat.mod_lt _ (by omega)
  have hn1 : 2147483648 ≤ Y / 4294967296 := by omega
  have hn2 : Y / 4294967296 < 4294967296 := by omega
  have hYn : Y = Y / 4294967296 * 4294967296 + Y % 4294967296 := by omega
  have hg := dl_guess (u := u) (n1 := Y / 4294967296) (n0 := Y % 4294967296) (B := 4294967296) (by omega) (by omega) (by omega) (by omega)
  have hdm := Nat.div_add_mod u (Y / 4294967296)
  have hml := Nat.mod_lt u (show 0 < Y / 4294967296 by omega)
  rw [Nat.mul_comm] at hdm
  refine ⟨u64_wrap_nat (by rw [← hYe, Int.natCast_mul, Int.natCast_pow]; rfl) (by omega), by omega, by omega, bits_and_low _ (by omega), u64_wrap_nat (by rw [Int.natCast_mul, Int.natCast_pow]; rfl) (by omega), by omega, by rw [Int.natCast_ediv, Int.natCast_pow]; rfl, hu, ?_,
    by omega, bits_and_low _ (by omega), (Int.natCast_ediv _ _).symm, (Int.natCast_mul _ _).symm, by omega, rfl, hYn, by omega, hn1, hn2, by omega, by omega, by omega, by omega, ?_, hdm, hml, hg, rfl, by omega, by omega⟩
  · rw [IntKind.wrap_u64, ← hle, Int.natCast_emod, Int.natCast_mul, Int.natCast_pow]
    rfl
  · rw [← hup]
end Go.Proofs.YtehlnkhbfbnadaaDoor
