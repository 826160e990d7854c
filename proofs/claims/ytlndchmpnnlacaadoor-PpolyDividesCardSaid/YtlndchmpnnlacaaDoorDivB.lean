/- Small lemmas on bits and powers. Contracts: math/bits.Div64, by its own text. Contracts: math/bits.Div64. -/
import Derived.Test.YtlndchmpnnlacaaDoorKit
import Derived.Test.YtlndchmpnnlacaaDoorShelf
import Derived.WalkMore
import Derived.Deep.CutBlock
import Derived.Deep.DeepCutAuto
import Derived.Deep.LoopGhost
namespace Go.Proofs.YtlndchmpnnlacaaDoor
open Go.RowKit
theorem bitLenAux_le : ∀ (f x k : Nat), x < 2 ^ k → Lib.bitLenAux f x ≤ k
  | 0, _, _, _ => Nat.zero_le _
  | f + 1, x, k, h => by
    unfold Lib.bitLenAux
    split
    · omega
    · cases k with
      | zero => rw [Nat.pow_zero] at h; omega
      | succ k =>
        have := bitLenAux_le f (x / 2) k (by rw [Nat.pow_succ] at h; omega)
        omega
theorem bitLenAux_lt : ∀ (f x : Nat), x < 2 ^ f → x < 2 ^ Lib.bitLenAux f x
  | 0, x, h => h
  | f + 1, x, h => by
    unfold Lib.bitLenAux
    split
    · rename_i h0; rw [h0]; decide
    · have := bitLenAux_lt f (x / 2) (by rw [Nat.pow_succ] at h; omega)
      rw [Nat.add_comm, Nat.pow_succ]
      omega
theorem and_one64 (q : Nat) (h : q ≤ 18446744073709551615) : bits .and .u64 (q : Int) 1 = ((q % 2 : Nat) : Int) := by
  show IntKind.u64.wrap ((BitVec.ofInt 64 (q : Int) &&& BitVec.ofInt 64 1).toNat : Int) = _
  have e : (BitVec.ofInt 64 (q : Int) &&& BitVec.ofInt 64 1).toNat = q % 2 := by
    rw [BitVec.toNat_and, BitVec.ofInt_natCast, BitVec.toNat_ofNat, Nat.mod_eq_of_lt (by omega)]
    exact Nat.and_one_is_mod q
  rw [e, IntKind.wrap_u64]
  omega
theorem pow_half {p x b k r : Nat} (h : x * b ^ k % p = r) : (k % 2 = 1 → (x * b % p) * (b * b % p) ^ (k / 2) % p = r) ∧ (k % 2 = 0 → x * (b * b % p) ^ (k / 2) % p = r) := by
  have e : b ^ k = (if k % 2 = 1 then b else 1) * (b * b) ^ (k / 2) := by
    rw [← Nat.pow_two, ← Nat.pow_mul]
    split
    · rename_i h1
      rw [Nat.mul_comm b, ← Nat.pow_succ]; congr 1; omega
    · rw [Nat.one_mul]; congr 1; omega
  constructor
  · intro h1
    rw [if_pos h1] at e
    rw [← h, e, ← Nat.mul_assoc, Nat.mul_mod, Nat.mod_mod, ← Nat.pow_mod, ← Nat.mul_mod]
  · intro h0
    rw [if_neg (by omega), Nat.one_mul] at e
    rw [← h, e, Nat.mul_mod x, ← Nat.pow_mod, ← Nat.mul_mod]
end Go.Proofs.YtlndchmpnnlacaaDoor

namespace Go.Proofs.YtlndchmpnnlacaaDoor
open Go.RowKit

theorem dl_exit {q r u d Y n1 n0 B T : Nat} (hY : Y = n1 * B + n0) (hT : T = u * B + d) (hinv : q * n1 + r = u) (hY0 : 0 < Y) (hq : T / Y ≤ q) (h : q * n0 ≤ B * r + d) : T / Y = q := by
  refine Nat.le_antisymm hq ((Nat.le_div_iff_mul_le hY0).2 ?_)
  have e1 : q * Y = q * n1 * B + q * n0 := by rw [hY, Nat.mul_add, Nat.mul_assoc]
  have e2 : T = q * n1 * B + B * r + d := by rw [hT, ← hinv, Nat.add_mul, Nat.mul_comm r B]
  omega
theorem dl_round {q r u d Y n1 n0 B T : Nat} (hY : Y = n1 * B + n0) (hT : T = u * B + d) (hinv : q * n1 + r = u) (hY0 : 0 < Y) (hTB : T / Y < B) (h : B ≤ q ∨ B * r + d < q * n0) : T / Y + 1 ≤ q := by
  rcases h with h | h
  · omega
  · have e1 : q * Y = q * n1 * B + q * n0 := by rw [hY, Nat.mul_add, Nat.mul_assoc]
    have e2 : T = q * n1 * B + B * r + d := by rw [hT, ← hinv, Nat.add_mul, Nat.mul_comm r B]
    exact (Nat.div_lt_iff_lt_mul hY0).2 (by omega)
theorem dl_break {q r u d Y n1 n0 B T : Nat} (hY : Y = n1 * B + n0) (hT : T = u * B + d) (hinv : q * n1 + r = u) (hY0 : 0 < Y) (hq : T / Y ≤ q) (hr : B ≤ r) (hqB : q ≤ B) (hn0 : n0 ≤ B) : T / Y = q := by
  refine dl_exit hY hT hinv hY0 hq ?_
  have h1 : q * n0 ≤ B * B := Nat.mul_le_mul hqB hn0
  have h2 : B * B ≤ B * r := Nat.mul_le_mul_left _ hr
  omega
theorem dl_guess {u n1 n0 B : Nat} (hu : u < n1 * B + n0) (hn0 : n0 < B) (h1 : 2 * n1 ≥ B) (hB : 2 ≤ B) : u / n1 ≤ B + 1 := by
  have : u < (B + 2) * n1 := by rw [Nat.add_mul, Nat.mul_comm B]; omega
  have := (Nat.div_lt_iff_lt_mul (by omega : 0 < n1)).2 this
  omega
theorem dl_lt {u d Y B T : Nat} (hT : T = u * B + d) (hd : d < B) (hu : u < Y) : T / Y < B := by
  rw [Nat.div_lt_iff_lt_mul (by omega), hT]
  have : (u + 1) * B ≤ Y * B := Nat.mul_le_mul_right _ hu
  rw [Nat.add_mul] at this
  rw [Nat.mul_comm B Y]
  omega
theorem dl_up {hi lo s M : Nat} (hs : s ≤ 64) (hM : M = hi * 18446744073709551616 + lo) :
    (hi * 2 ^ s + lo / 2 ^ (64 - s)) * 18446744073709551616 + lo * 2 ^ s % 18446744073709551616 = M * 2 ^ s := by
  have e : lo / 2 ^ (64 - s) = lo * 2 ^ s / 18446744073709551616 := by
    rw [show (18446744073709551616 : Nat) = 2 ^ (64 - s) * 2 ^ s by rw [← Nat.pow_add, Nat.sub_add_cancel hs]]
    rw [Nat.mul_div_mul_right _ _ (Nat.pow_pos (by omega))]
  have h := Nat.mod_add_div (lo * 2 ^ s) 18446744073709551616
  rw [e, hM, Nat.add_mul, Nat.add_mul, Nat.mul_right_comm]
  omega
theorem dl_final {M y P u l d1 d0 B Y T Q1 V T2 Q0 R : Nat} (hN : u * (B * B) + l = M * P) (hl : l = d1 * B + d0) (hY : Y = y * P) (hP : 0 < P) (hy : 0 < y) (hT : T = u * B + d1) (h1 : T / Y = Q1) (h2 : T % Y = V) (hT2 : T2 = V * B + d0) (h3 : T2 / Y = Q0) (h4 : T2 % Y = R) :
    M / y = Q1 * B + Q0 ∧ M % y = R / P := by
  have hY0 : 0 < Y := by rw [hY]; exact Nat.mul_pos hy hP
  have e1 := Nat.div_add_mod T Y
  have e2 := Nat.div_add_mod T2 Y
  have hR : R < Y := by rw [← h4]; exact Nat.mod_lt _ hY0
  rw [h1, h2] at e1
  rw [h3, h4] at e2
  have e3 : M * P = (Q1 * B + Q0) * Y + R := by
    rw [← hN, hl]
    have a1 : u * (B * B) + d1 * B = T * B := by rw [hT, Nat.add_mul, Nat.mul_assoc]
    have a2 : T * B = Y * Q1 * B + V * B := by rw [← e1, Nat.add_mul]
    have a3 : (Q1 * B + Q0) * Y = Y * Q1 * B + Y * Q0 := by rw [Nat.add_mul, Nat.mul_right_comm, Nat.mul_comm Q1 Y, Nat.mul_comm Q0 Y]
    omega
  have d := Nat.mul_div_mul_right M y hP
  have m := Nat.mul_mod_mul_right P M y
  rw [← hY, e3] at d m
  constructor
  · rw [← d, Nat.add_comm, Nat.add_mul_div_right _ _ hY0, Nat.div_eq_of_lt hR, Nat.zero_add]
  · rw [Nat.add_comm, Nat.add_mul_mod_self_right, Nat.mod_eq_of_lt hR] at m
    rw [m, Nat.mul_div_cancel _ hP]
theorem or_free2 {r p m : Nat} (hp : p < 2 ^ r) : 2 ^ r * m ||| p = p + 2 ^ r * m := by
  rw [← Nat.two_pow_add_eq_or_of_lt hp m, Nat.add_comm]

theorem bitLenAux_low : ∀ (f x : Nat), 0 < x → x < 2 ^ f → 2 ^ Lib.bitLenAux f x ≤ 2 * x
  | 0, x, h0, h => by rw [Nat.pow_zero] at h; omega
  | f + 1, x, h0, h => by
    unfold Lib.bitLenAux
    rw [if_neg (by omega)]
    rcases Nat.eq_zero_or_pos (x / 2) with h1 | h1
    · have e : Lib.bitLenAux f (x / 2) = 0 := by
        rw [h1]
        cases f with
        | zero => rfl
        | succ f => unfold Lib.bitLenAux; rw [if_pos rfl]
      rw [e]
      omega
    · have := bitLenAux_low f (x / 2) h1 (by rw [Nat.pow_succ] at h; omega)
      rw [Nat.add_comm, Nat.pow_succ]
      omega
theorem bits_and_low (n : Nat) (h : n < 18446744073709551616) : bits .and .u64 (n : Int) 4294967295 = ((n % 4294967296 : Nat) : Int) := by
  show IntKind.u64.wrap ((BitVec.ofInt 64 (n : Int) &&& BitVec.ofInt 64 4294967295).toNat : Int) = _
  have e : (BitVec.ofInt 64 (n : Int) &&& BitVec.ofInt 64 4294967295).toNat = n % 4294967296 := by
    rw [BitVec.toNat_and, BitVec.ofInt_natCast, BitVec.toNat_ofNat, Nat.mod_eq_of_lt (by omega)]
    exact Nat.and_two_pow_sub_one_eq_mod n 32
  rw [e, IntKind.wrap_u64]
  omega
theorem u64_wrap_nat {x : Int} {n : Nat} (h : x = n) (hn : n < 18446744073709551616) : IntKind.u64.wrap x = (n : Int) := by rw [h, IntKind.wrap_u64]; omega

/-- What stands at the head of the long division. -/
theorem div_head (hi lo y s : Nat) (h1 : hi < y) (hlo : lo < 18446744073709551616) (hs : s ≤ 64) (hy1 : y * 2 ^ s < 18446744073709551616) (hy2 : 9223372036854775808 ≤ y * 2 ^ s) :
    ∃ Y n1 n0 H k L u l d1 d0 g p r : Nat, IntKind.u64.wrap ((y : Int) * 2 ^ s) = (Y : Int) ∧ Y ≤ 18446744073709551615 ∧ (Y : Int) / 4294967296 = (n1 : Int) ∧ bits .and .u64 (Y : Int) 4294967295 = (n0 : Int) ∧
      IntKind.u64.wrap ((hi : Int) * 2 ^ s) = (H : Int) ∧ (64 : Int) - (s : Int) = (k : Int) ∧ (lo : Int) / 2 ^ k = (L : Int) ∧ bits .or .u64 (H : Int) (L : Int) = (u : Int) ∧ IntKind.u64.wrap ((lo : Int) * 2 ^ s) = (l : Int) ∧
      (l : Int) / 4294967296 = (d1 : Int) ∧ bits .and .u64 (l : Int) 4294967295 = (d0 : Int) ∧ (u : Int) / (n1 : Int) = (g : Int) ∧ (g : Int) * (n1 : Int) = (p : Int) ∧ (u : Int) - (p : Int) = (r : Int) ∧
      Y = y * 2 ^ s ∧ Y = n1 * 4294967296 + n0 ∧ n0 < 4294967296 ∧ 2147483648 ≤ n1 ∧ n1 < 4294967296 ∧ u < Y ∧ l = d1 * 4294967296 + d0 ∧ d1 < 4294967296 ∧ d0 < 4294967296 ∧
      u * (4294967296 * 4294967296) + l = (hi * 18446744073709551616 + lo) * 2 ^ s ∧ g * n1 + r = u ∧ r < n1 ∧ g ≤ 4294967297 ∧ g = u / n1 ∧ l ≤ 18446744073709551615 ∧ p ≤ u := by
  have hH : hi * 2 ^ s < y * 2 ^ s := Nat.mul_lt_mul_of_pos_right h1 (Nat.pow_pos (by omega))
  have hL : lo / 2 ^ (64 - s) < 2 ^ s := by
    rw [Nat.div_lt_iff_lt_mul (Nat.pow_pos (by omega)), ← Nat.pow_add, show s + (64 - s) = 64 by omega]
    exact hlo
  have hup := dl_up (hi := hi) (lo := lo) (s := s) hs rfl
  have hHL : hi * 2 ^ s + 2 ^ s ≤ y * 2 ^ s := by
    rw [← Nat.succ_mul]
    exact Nat.mul_le_mul_right _ h1
  generalize hYe : y * 2 ^ s = Y at *
  have hu : bits .or .u64 ((hi * 2 ^ s : Nat) : Int) ((lo / 2 ^ (64 - s) : Nat) : Int) = ((hi * 2 ^ s + lo / 2 ^ (64 - s) : Nat) : Int) := by
    rw [bits_or_u64_nat _ _ (by omega) (by omega), Nat.mul_comm hi, or_free2 hL, Nat.add_comm]
  refine ⟨Y, Y / 4294967296, Y % 4294967296, hi * 2 ^ s, 64 - s, lo / 2 ^ (64 - s), hi * 2 ^ s + lo / 2 ^ (64 - s), lo * 2 ^ s % 18446744073709551616, lo * 2 ^ s % 18446744073709551616 / 4294967296, lo * 2 ^ s % 18446744073709551616 % 4294967296,
    (hi * 2 ^ s + lo / 2 ^ (64 - s)) / (Y / 4294967296), (hi * 2 ^ s + lo / 2 ^ (64 - s)) / (Y / 4294967296) * (Y / 4294967296), (hi * 2 ^ s + lo / 2 ^ (64 - s)) % (Y / 4294967296), ?_⟩
  generalize hue : hi * 2 ^ s + lo / 2 ^ (64 - s) = u at *
  generalize hle : lo * 2 ^ s % 18446744073709551616 = l at *
  have hl2 : l < 18446744073709551616 := by rw [← hle]; exact Nat.mod_lt _ (by omega)
  have hn1 : 2147483648 ≤ Y / 4294967296 := by omega
  have hn2 : Y / 4294967296 < 4294967296 := by omega
  have hYn : Y = Y / 4294967296 * 4294967296 + Y % 4294967296 := by omega
  have hg := dl_guess (u := u) (n1 := Y / 4294967296) (n0 := Y % 4294967296) (B := 4294967296) (by omega) (by omega) (by omega) (by omega)
  have hdm := Nat.div_add_mod u (Y / 4294967296)
  have hml := Nat.mod_lt u (show 0 < Y / 4294967296 by omega)
  rw [Nat.mul_comm] at hdm
  refine ⟨u64_wrap_nat (by rw [← hYe, Int.natCast_mul, Int.natCast_pow]; rfl) (by omega), by omega, by omega, bits_and_low _ (by omega), u64_wrap_nat (by rw [Int.natCast_mul, Int.natCast_pow]; rfl) (by omega), by omega, by rw [Int.natCast_ediv, Int.natCast_pow]; rfl, hu, ?_,
    by omega, bits_and_low _ (by omega), (Int.natCast_ediv _ _).symm, (Int.natCast_mul _ _).symm, by omega, rfl, hYn, by omega, hn1, hn2, by omega, by omega, by omega, by omega, ?_, hdm, hml, hg, rfl, by omega, by omega⟩
  · rw [IntKind.wrap_u64, ← hle, Int.natCast_emod, Int.natCast_mul, Int.natCast_pow]
    rfl
  · rw [← hup]
end Go.Proofs.YtlndchmpnnlacaaDoor

namespace Go.Proofs.YtlndchmpnnlacaaDoor
open Go.RowKit

theorem gs_max {v1 v0 u u0 W d : Nat} (hv : 0 < v1) (hu0 : u0 < W) (h : d * (v1 * W + v0) ≤ u * W + u0) : d ≤ u / v1 := by
  rw [Nat.le_div_iff_mul_le hv]
  rw [Nat.mul_add, ← Nat.mul_assoc] at h
  have : d * v1 * W < (u + 1) * W := by rw [Nat.add_mul]; omega
  exact Nat.le_of_lt_succ (Nat.lt_of_mul_lt_mul_right this)

theorem div64_low (lo y : Nat) (w : World) (h1 : 0 < y) (hy : y ≤ 18446744073709551615) (hlo : lo ≤ 18446744073709551615) :
    Calls Tryd.prog 96 #[.int .u64 0, .int .u64 (lo : Int), .int .u64 (y : Int)] w fun e w' => e = .returned (.tuple #[.int .u64 (lo / y : Nat), .int .u64 (lo % y : Nat)]) ∧ ∃ n, w' = w.drewN n := by
  have hy0 : ((y : Int) == 0) = false := by rw [beq_eq_false_iff_ne]; omega
  have hle : ¬ (y : Int) ≤ 0 := by omega
  obtain ⟨q, hq⟩ : ∃ q, lo / y = q := ⟨_, rfl⟩
  obtain ⟨t, ht⟩ : ∃ t, lo % y = t := ⟨_, rfl⟩
  have hq' : (lo : Int) / (y : Int) = (q : Int) := by rw [← hq, Int.natCast_ediv]
  have ht' : (lo : Int) % (y : Int) = (t : Int) := by rw [← ht, Int.natCast_emod]
  have hql : q ≤ lo := by rw [← hq]; exact Nat.div_le_self _ _
  have hqw : IntKind.u64.wrap ((lo : Int) / (y : Int)) = (q : Int) := by rw [hq', IntKind.wrap_u64]; omega
  have hlo2 : (lo : Int) ≤ 18446744073709551615 := by omega
  have hy2 : (y : Int) ≤ 18446744073709551615 := by omega
  rw [hq, ht]
  clear hq ht
  go_enter Tryd.func96, Tryd.ntmps96
  go_wp2
  go_quiet (fail)
  go_wp2
  go_ret2
  exact ⟨ret_pair rfl ht', _, rfl⟩

set_option maxHeartbeats 4000000 in
theorem div64_high (hi lo y : Nat) (w : World) (h0 : 0 < hi) (h1 : hi < y) (hy : y ≤ 18446744073709551615) (hlo : lo ≤ 18446744073709551615) :
    Calls Tryd.prog 96 #[.int .u64 (hi : Int), .int .u64 (lo : Int), .int .u64 (y : Int)] w fun e w' => e = .returned (.tuple #[.int .u64 ((hi * 18446744073709551616 + lo) / y : Nat), .int .u64 ((hi * 18446744073709551616 + lo) % y : Nat)]) ∧ ∃ n, w' = w.drewN n := by
  obtain ⟨b, hb⟩ : ∃ b, Lib.bitLen y = b := ⟨_, rfl⟩
  have hb1 : y < 2 ^ b := by rw [← hb]; exact bitLenAux_lt 64 y (by omega)
  have hb2 : 2 ^ b ≤ 2 * y := by rw [← hb]; exact bitLenAux_low 64 y (by omega) (by omega)
  have hb64 : b ≤ 64 := by rw [← hb]; exact bitLenAux_le 64 y 64 (by omega)
  obtain ⟨s, hs⟩ : ∃ s, b + s = 64 := ⟨64 - b, by omega⟩
  have HLZ : Hid (∀ W : World, Calls Tryd.prog 97 #[.int .u64 (y : Int)] W fun e w' => e = .returned (.int .i64 (s : Int)) ∧ W = w') :=
    Lib.hid fun W => (Tryd.bits_LeadingZeros64 y W (by omega) (by omega)).mono fun _ _ h => ⟨by rw [h.1, Int.toNat_natCast, hb]; exact ret_int (by omega), h.2.symm⟩
  have e64 : 2 ^ b * 2 ^ s = 18446744073709551616 := by rw [← Nat.pow_add, hs]
  have hy1 : y * 2 ^ s < 18446744073709551616 := by rw [← e64]; exact Nat.mul_lt_mul_of_pos_right hb1 (Nat.pow_pos (by omega))
  have hy2 : 9223372036854775808 ≤ y * 2 ^ s := by
    have := Nat.mul_le_mul_right (2 ^ s) hb2
    rw [e64, Nat.mul_assoc] at this
    omega
  obtain ⟨Y, n1, n0, H, k, L, u, l, d1, d0, g, p, r, f1, f2, f3, f4, f5, f6, f7, f8, f9, f10, f11, f12, f13, f14, gY, gYn, gn0, gn1, gn1', guY, gl, gd1, gd0, gN, ggu, gr, gg, ggd, gl2, gpu⟩ := div_head hi lo y s h1 (by omega) (by omega) hy1 hy2
  have hy0 : ((y : Int) == 0) = false := by rw [beq_eq_false_iff_ne]; omega
  have hle : ¬ (y : Int) ≤ hi := by omega
  have hz : ((hi : Int) == 0) = false := by rw [beq_eq_false_iff_ne]; omega
  have hyi : (y : Int) ≤ 18446744073709551615 := by omega
  have hloi : (lo : Int) ≤ 18446744073709551615 := by omega
  have hhii : (hi : Int) ≤ 18446744073709551615 := by omega
  have hs64 : s ≤ 64 := by omega
  have hk64 : k ≤ 64 := by omega
  have HGY := Lib.hid gY
  have HGYN := Lib.hid gYn
  have HGL := Lib.hid gl
  have HGN := Lib.hid gN
  have HGGU := Lib.hid ggu
  have HGGD := Lib.hid ggd
  clear hb hb1 hb2 hb64 hs e64 hy1 hy2 gY gYn gl gN ggu ggd
  have hY0 : 0 < Y := by omega
  obtain ⟨T, hT⟩ : ∃ T, u * 4294967296 + d1 = T := ⟨_, rfl⟩
  obtain ⟨Q1, hQ1⟩ : ∃ Q1, T / Y = Q1 := ⟨_, rfl⟩
  have hQ1b : Q1 < 4294967296 := by rw [← hQ1]; exact dl_lt hT.symm gd1 guY
  have HT : Hid (T = u * 4294967296 + d1 ∧ T / Y = Q1 ∧ T / Y < 4294967296) := Lib.hid ⟨hT.symm, hQ1, dl_lt hT.symm gd1 guY⟩
  have HG1 : Hid (g * n1 + r = u ∧ Q1 ≤ g ∧ g ≤ 4294967297) := Lib.hid ⟨HGGU.out, by
    rw [HGGD.out, ← hQ1, ← hT]
    exact gs_max (v0 := n0) (d := _) (by omega) gd1 (by rw [← HGYN.out]; exact Nat.div_mul_le_self _ _), gg⟩
  obtain ⟨V, hV⟩ : ∃ V, T % Y = V := ⟨_, rfl⟩
  have hVY : V < Y := by rw [← hV]; exact Nat.mod_lt _ hY0
  obtain ⟨P1, hP1⟩ : ∃ P1, Q1 * Y = P1 := ⟨_, rfl⟩
  have hP1i : (Q1 : Int) * (Y : Int) = (P1 : Int) := by rw [← hP1, Int.natCast_mul]
  have hPV : P1 + V = T := by rw [← hP1, ← hQ1, ← hV, Nat.mul_comm]; exact Nat.div_add_mod _ _
  have hVe : IntKind.u64.wrap (IntKind.u64.wrap (IntKind.u64.wrap ((u : Int) * 4294967296) + (d1 : Int)) - IntKind.u64.wrap ((Q1 : Int) * (Y : Int))) = (V : Int) := by
    rw [hP1i]
    simp only [IntKind.wrap_u64]
    omega
  obtain ⟨T2, hT2⟩ : ∃ T2, V * 4294967296 + d0 = T2 := ⟨_, rfl⟩
  obtain ⟨Q0, hQ0⟩ : ∃ Q0, T2 / Y = Q0 := ⟨_, rfl⟩
  have hQ0b : Q0 < 4294967296 := by rw [← hQ0]; exact dl_lt hT2.symm gd0 hVY
  obtain ⟨R, hR⟩ : ∃ R, T2 % Y = R := ⟨_, rfl⟩
  have hRY : R < Y := by rw [← hR]; exact Nat.mod_lt _ hY0
  obtain ⟨P0, hP0⟩ : ∃ P0, Q0 * Y = P0 := ⟨_, rfl⟩
  have hP0i : (Q0 : Int) * (Y : Int) = (P0 : Int) := by rw [← hP0, Int.natCast_mul]
  have hPR : P0 + R = T2 := by rw [← hP0, ← hQ0, ← hR, Nat.mul_comm]; exact Nat.div_add_mod _ _
  have hRe : IntKind.u64.wrap (IntKind.u64.wrap (IntKind.u64.wrap ((V : Int) * 4294967296) + (d0 : Int)) - IntKind.u64.wrap ((Q0 : Int) * (Y : Int))) = (R : Int) := by
    rw [hP0i]
    simp only [IntKind.wrap_u64]
    omega
  obtain ⟨g2, hg2⟩ : ∃ g2, V / n1 = g2 := ⟨_, rfl⟩
  obtain ⟨p2', hp2'⟩ : ∃ p2', g2 * n1 = p2' := ⟨_, rfl⟩
  have hdm2 := Nat.div_add_mod V n1
  have hml2 := Nat.mod_lt V (show 0 < n1 by omega)
  have hgg2 := dl_guess (u := V) (n1 := n1) (n0 := n0) (B := 4294967296) (by rw [← HGYN.out]; exact hVY) gn0 (by omega) (by omega)
  rw [hg2, Nat.mul_comm] at hdm2
  rw [hg2] at hgg2
  have hg2i : (V : Int) / (n1 : Int) = (g2 : Int) := by rw [← hg2, Int.natCast_ediv]
  have hp2i' : (g2 : Int) * (n1 : Int) = (p2' : Int) := by rw [← hp2', Int.natCast_mul]
  obtain ⟨r2, hr2⟩ : ∃ r2, V % n1 = r2 := ⟨_, rfl⟩
  rw [hp2', hr2] at hdm2
  have hr2i : (V : Int) - (p2' : Int) = (r2 : Int) := by omega
  have hp2V : p2' ≤ V := by omega
  have hr2n : r2 < n1 := by omega
  have HT2 : Hid (T2 = V * 4294967296 + d0 ∧ T2 / Y = Q0 ∧ T2 / Y < 4294967296) := Lib.hid ⟨hT2.symm, hQ0, dl_lt hT2.symm gd0 hVY⟩
  have HG2 : Hid (g2 * n1 + r2 = V ∧ Q0 ≤ g2 ∧ g2 ≤ 4294967297) := Lib.hid ⟨by rw [hp2']; exact hdm2, by
    rw [← hg2, ← hQ0, ← hT2]
    exact gs_max (v0 := n0) (d := _) (by omega) gd0 (by rw [← HGYN.out]; exact Nat.div_mul_le_self _ _), hgg2⟩
  have HFIN := Lib.hid (dl_final (M := hi * 18446744073709551616 + lo) (y := y) (P := 2 ^ s) (u := u) (l := l) (d1 := d1) (d0 := d0) (B := 4294967296) HGN.out HGL.out HGY.out (Nat.pow_pos (by omega)) (by omega) HT.out.1 HT.out.2.1 hV HT2.out.1 HT2.out.2.1 hR)
  obtain ⟨Z, hZ⟩ : ∃ Z, R / 2 ^ s = Z := ⟨_, rfl⟩
  have hZi : (R : Int) / 2 ^ s = (Z : Int) := by rw [← hZ, Int.natCast_ediv, Int.natCast_pow]; rfl
  rw [hZ] at HFIN
  rw [HFIN.out.1, HFIN.out.2]
  clear hT hQ1 hV hP1 hPV hT2 hQ0 hR hP0 hPR hg2 hp2' hdm2 hr2 hZ hP1i hP0i
  go_enter Tryd.func96, Tryd.ntmps96
  go_upto_block 0 with (go_at_call 97; (with_reducible refine (HLZ.out _).mono ?_); rintro e w' ⟨rfl, rfl⟩)
  go_cut [15] (fun q wr => q = .int .u64 (Q1 : Int) ∧ w = wr)
  case first =>
    go_wp2_with fail
    go_loopg [15, 16] g (fun gk qv rv wr => ∃ a b : Nat, qv = .int .u64 a ∧ rv = .int .u64 b ∧ Q1 ≤ a ∧ a ≤ 4294967297 ∧ a * n1 + b = u ∧ b < 4294967296 ∧ a = gk ∧ w = wr)
    case atStart => exact ⟨g, r, rfl, rfl, HG1.out.2.1, HG1.out.2.2, HG1.out.1, by omega, rfl, rfl⟩
    case round =>
      obtain ⟨a, b, rfl, rfl, hqa, ha, hinv, hb, hag, rfl⟩ := hrel
      have HAG := Lib.hid hag
      have HINV := Lib.hid hinv
      have HQA := Lib.hid hqa
      clear hag hinv hqa
      by_cases hge : 4294967296 ≤ a
      · have hgei : decide ((4294967296 : Int) ≤ (a : Int)) = true := decide_eq_true (by omega)
        have HR := Lib.hid (dl_round HGYN.out HT.out.1 HINV.out hY0 HT.out.2.2 (Or.inl hge))
        rw [HT.out.2.1] at HR
        have ha1 : (1 : Int) ≤ (a : Int) := by have := HR.out; omega
        have HINV2 : Hid ((a - 1) * n1 + (b + n1) = u) := Lib.hid (by
          obtain ⟨c, hc⟩ : ∃ c, a = c + 1 := ⟨a - 1, by omega⟩
          have := HINV.out
          rw [hc, Nat.add_mul] at this
          rw [hc, Nat.add_sub_cancel]
          omega)
        have HE : Hid (4294967296 ≤ b + n1 → T / Y = a - 1) := Lib.hid fun hov => dl_break HGYN.out HT.out.1 HINV2.out hY0 (by rw [HT.out.2.1]; have := HR.out; omega) hov (by omega) (by omega)
        obtain ⟨a', ha'⟩ : ∃ a', a - 1 = a' := ⟨_, rfl⟩
        rw [ha'] at HINV2 HE
        have hav : (a : Int) - 1 = (a' : Int) := by omega
        have HA' := Lib.hid ha'
        clear ha' hge
        by_cases hov : 4294967296 ≤ b + n1
        · have HEE := Lib.hid (HE.out hov)
          have hovi : (4294967296 : Int) ≤ (b : Int) + n1 := by omega
          clear hov
          go_wp2
          go_meet
          exact ⟨by rw [← HT.out.2.1, HEE.out], rfl⟩
        · have hovi : ¬ (4294967296 : Int) ≤ (b : Int) + n1 := by omega
          go_wp2
          go_roundg a'
          case measure => have := HAG.out; have := HA'.out; omega
          case rel => exact ⟨a', b + n1, by first | rfl | (congr 1 <;> omega), by first | rfl | (congr 1 <;> omega), by have := HR.out; have := HA'.out; omega, by have := HA'.out; omega, HINV2.out, by omega, rfl, rfl⟩
      · obtain ⟨p2, hp2⟩ : ∃ p2, a * n0 = p2 := ⟨_, rfl⟩
        have hp2i : (a : Int) * (n0 : Int) = (p2 : Int) := by rw [← hp2, Int.natCast_mul]
        have hp2b : p2 ≤ 18446744065119617025 := by rw [← hp2]; exact Nat.mul_le_mul (show a ≤ 4294967295 by omega) (show n0 ≤ 4294967295 by omega)
        have hgei : decide ((4294967296 : Int) ≤ (a : Int)) = false := decide_eq_false (by omega)
        by_cases hc : 4294967296 * b + d1 < p2
        · have hcv : 4294967296 * (b : Int) + (d1 : Int) < (p2 : Int) := by omega
          have HR := Lib.hid (dl_round HGYN.out HT.out.1 HINV.out hY0 HT.out.2.2 (Or.inr (by rw [hp2]; exact hc)))
          rw [HT.out.2.1] at HR
          have ha1 : (1 : Int) ≤ (a : Int) := by have := HR.out; omega
          have HINV2 : Hid ((a - 1) * n1 + (b + n1) = u) := Lib.hid (by
            obtain ⟨c, hc⟩ : ∃ c, a = c + 1 := ⟨a - 1, by omega⟩
            have := HINV.out
            rw [hc, Nat.add_mul] at this
            rw [hc, Nat.add_sub_cancel]
            omega)
          have HE : Hid (4294967296 ≤ b + n1 → T / Y = a - 1) := Lib.hid fun hov => dl_break HGYN.out HT.out.1 HINV2.out hY0 (by rw [HT.out.2.1]; have := HR.out; omega) hov (by omega) (by omega)
          obtain ⟨a', ha'⟩ : ∃ a', a - 1 = a' := ⟨_, rfl⟩
          rw [ha'] at HINV2 HE
          have hav : (a : Int) - 1 = (a' : Int) := by omega
          have HA' := Lib.hid ha'
          clear ha' hc hp2
          by_cases hov : 4294967296 ≤ b + n1
          · have HEE := Lib.hid (HE.out hov)
            have hovi : (4294967296 : Int) ≤ (b : Int) + n1 := by omega
            clear hov
            go_wp2
            go_meet
            exact ⟨by rw [← HT.out.2.1, HEE.out], rfl⟩
          · have hovi : ¬ (4294967296 : Int) ≤ (b : Int) + n1 := by omega
            go_wp2
            go_roundg a'
            case measure => have := HAG.out; have := HA'.out; omega
            case rel => exact ⟨a', b + n1, by first | rfl | (congr 1 <;> omega), by first | rfl | (congr 1 <;> omega), by have := HR.out; have := HA'.out; omega, by have := HA'.out; omega, HINV2.out, by omega, rfl, rfl⟩
        · have HE := Lib.hid (dl_exit HGYN.out HT.out.1 HINV.out hY0 (by rw [HT.out.2.1]; exact HQA.out) (by rw [hp2]; omega))
          have hcv : ¬ 4294967296 * (b : Int) + (d1 : Int) < (p2 : Int) := by omega
          have HP2 := Lib.hid hp2
          clear hc hp2
          go_wp2
          go_meet
          exact ⟨by rw [← HT.out.2.1, HE.out], rfl⟩
  case rest =>
    obtain ⟨rfl, rfl⟩ := hcut
    go_upto_block 2 with fail
    go_cut [18] (fun q wr => q = .int .u64 (Q0 : Int) ∧ w = wr)
    case first =>
      go_wp2_with fail
      go_loopg [18, 16] g2 (fun gk qv rv wr => ∃ a b : Nat, qv = .int .u64 a ∧ rv = .int .u64 b ∧ Q0 ≤ a ∧ a ≤ 4294967297 ∧ a * n1 + b = V ∧ b < 4294967296 ∧ a = gk ∧ w = wr)
      case atStart => exact ⟨g2, r2, rfl, rfl, HG2.out.2.1, HG2.out.2.2, HG2.out.1, by omega, rfl, rfl⟩
      case round =>
        obtain ⟨a, b, rfl, rfl, hqa, ha, hinv, hb, hag, rfl⟩ := hrel
        have HAG := Lib.hid hag
        have HINV := Lib.hid hinv
        have HQA := Lib.hid hqa
        clear hag hinv hqa
        by_cases hge : 4294967296 ≤ a
        · have hgei : decide ((4294967296 : Int) ≤ (a : Int)) = true := decide_eq_true (by omega)
          have HR := Lib.hid (dl_round HGYN.out HT2.out.1 HINV.out hY0 HT2.out.2.2 (Or.inl hge))
          rw [HT2.out.2.1] at HR
          have ha1 : (1 : Int) ≤ (a : Int) := by have := HR.out; omega
          have HINV2 : Hid ((a - 1) * n1 + (b + n1) = V) := Lib.hid (by
            obtain ⟨c, hc⟩ : ∃ c, a = c + 1 := ⟨a - 1, by omega⟩
            have := HINV.out
            rw [hc, Nat.add_mul] at this
            rw [hc, Nat.add_sub_cancel]
            omega)
          have HE : Hid (4294967296 ≤ b + n1 → T2 / Y = a - 1) := Lib.hid fun hov => dl_break HGYN.out HT2.out.1 HINV2.out hY0 (by rw [HT2.out.2.1]; have := HR.out; omega) hov (by omega) (by omega)
          obtain ⟨a', ha'⟩ : ∃ a', a - 1 = a' := ⟨_, rfl⟩
          rw [ha'] at HINV2 HE
          have hav : (a : Int) - 1 = (a' : Int) := by omega
          have HA' := Lib.hid ha'
          clear ha' hge
          by_cases hov : 4294967296 ≤ b + n1
          · have HEE := Lib.hid (HE.out hov)
            have hovi : (4294967296 : Int) ≤ (b : Int) + n1 := by omega
            clear hov
            go_wp2
            go_meet
            exact ⟨by rw [← HT2.out.2.1, HEE.out], rfl⟩
          · have hovi : ¬ (4294967296 : Int) ≤ (b : Int) + n1 := by omega
            go_wp2
            go_roundg a'
            case measure => have := HAG.out; have := HA'.out; omega
            case rel => exact ⟨a', b + n1, by first | rfl | (congr 1 <;> omega), by first | rfl | (congr 1 <;> omega), by have := HR.out; have := HA'.out; omega, by have := HA'.out; omega, HINV2.out, by omega, rfl, rfl⟩
        · obtain ⟨p2, hp2⟩ : ∃ p2, a * n0 = p2 := ⟨_, rfl⟩
          have hp2i : (a : Int) * (n0 : Int) = (p2 : Int) := by rw [← hp2, Int.natCast_mul]
          have hp2b : p2 ≤ 18446744065119617025 := by rw [← hp2]; exact Nat.mul_le_mul (show a ≤ 4294967295 by omega) (show n0 ≤ 4294967295 by omega)
          have hgei : decide ((4294967296 : Int) ≤ (a : Int)) = false := decide_eq_false (by omega)
          by_cases hc : 4294967296 * b + d0 < p2
          · have hcv : 4294967296 * (b : Int) + (d0 : Int) < (p2 : Int) := by omega
            have HR := Lib.hid (dl_round HGYN.out HT2.out.1 HINV.out hY0 HT2.out.2.2 (Or.inr (by rw [hp2]; exact hc)))
            rw [HT2.out.2.1] at HR
            have ha1 : (1 : Int) ≤ (a : Int) := by have := HR.out; omega
            have HINV2 : Hid ((a - 1) * n1 + (b + n1) = V) := Lib.hid (by
              obtain ⟨c, hc⟩ : ∃ c, a = c + 1 := ⟨a - 1, by omega⟩
              have := HINV.out
              rw [hc, Nat.add_mul] at this
              rw [hc, Nat.add_sub_cancel]
              omega)
            have HE : Hid (4294967296 ≤ b + n1 → T2 / Y = a - 1) := Lib.hid fun hov => dl_break HGYN.out HT2.out.1 HINV2.out hY0 (by rw [HT2.out.2.1]; have := HR.out; omega) hov (by omega) (by omega)
            obtain ⟨a', ha'⟩ : ∃ a', a - 1 = a' := ⟨_, rfl⟩
            rw [ha'] at HINV2 HE
            have hav : (a : Int) - 1 = (a' : Int) := by omega
            have HA' := Lib.hid ha'
            clear ha' hc hp2
            by_cases hov : 4294967296 ≤ b + n1
            · have HEE := Lib.hid (HE.out hov)
              have hovi : (4294967296 : Int) ≤ (b : Int) + n1 := by omega
              clear hov
              go_wp2
              go_meet
              exact ⟨by rw [← HT2.out.2.1, HEE.out], rfl⟩
            · have hovi : ¬ (4294967296 : Int) ≤ (b : Int) + n1 := by omega
              go_wp2
              go_roundg a'
              case measure => have := HAG.out; have := HA'.out; omega
              case rel => exact ⟨a', b + n1, by first | rfl | (congr 1 <;> omega), by first | rfl | (congr 1 <;> omega), by have := HR.out; have := HA'.out; omega, by have := HA'.out; omega, HINV2.out, by omega, rfl, rfl⟩
          · have HE := Lib.hid (dl_exit HGYN.out HT2.out.1 HINV.out hY0 (by rw [HT2.out.2.1]; exact HQA.out) (by rw [hp2]; omega))
            have hcv : ¬ 4294967296 * (b : Int) + (d0 : Int) < (p2 : Int) := by omega
            have HP2 := Lib.hid hp2
            clear hc hp2
            go_wp2
            go_meet
            exact ⟨by rw [← HT2.out.2.1, HE.out], rfl⟩
    case rest =>
      obtain ⟨rfl, rfl⟩ := hcut
      go_wp2
      go_ret2
      exact ⟨ret_pair (by omega) rfl, 0, rfl⟩
theorem div64_any (hi lo y : Nat) (w : World) (h1 : hi < y) (hy : y ≤ 18446744073709551615) (hlo : lo ≤ 18446744073709551615) :
    Calls Tryd.prog 96 #[.int .u64 (hi : Int), .int .u64 (lo : Int), .int .u64 (y : Int)] w fun e w' => e = .returned (.tuple #[.int .u64 ((hi * 18446744073709551616 + lo) / y : Nat), .int .u64 ((hi * 18446744073709551616 + lo) % y : Nat)]) ∧ ∃ n, w' = w.drewN n := by
  rcases Nat.eq_zero_or_pos hi with rfl | h0
  · have := div64_low lo y w h1 hy hlo
    rw [Nat.zero_mul, Nat.zero_add]
    exact this
  · exact div64_high hi lo y w h0 h1 hy hlo
end Go.Proofs.YtlndchmpnnlacaaDoor
