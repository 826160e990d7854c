/- Contracts: the library's carries, by the model's own entries; what a walk asks of words of 64 bits. -/
import Derived.Test.YtdflhidhnejbbaaSub
import Derived.Test.YtdflhidhnejbbaaShelf
import Derived.Shelf.Spec.BitsCarry
namespace Go.Proofs.Ytdflhidhnejbbaa
open Go.RowKit

theorem add64_run (x y c : Nat) (hc : c ≤ 1) (w : World) : (callFunc 61 #[.int .u64 x, .int .u64 y, .int .u64 c]).run Try.prog w =
    .ok (.value (.tuple #[.int .u64 (((x + y + c) % 18446744073709551616 : Nat) : Int), .int .u64 (((x + y + c) / 18446744073709551616 : Nat) : Int)])) w := by
  rw [run_callFunc_extern Try.func61 (by kernel_rfl) (by kernel_rfl) (by kernel_rfl) (e := add64Entry) (by kernel_rfl), run_add64 x y c (by omega) (by omega) (by omega) (by omega)]
  simp only [Result.andThen]
  congr 5 <;> omega
theorem sub64_run (x y b : Nat) (hb : b ≤ 1) (w : World) : (callFunc 62 #[.int .u64 x, .int .u64 y, .int .u64 b]).run Try.prog w =
    .ok (.value (.tuple #[.int .u64 (((x + 18446744073709551616 - y - b) % 18446744073709551616 : Nat) : Int), .int .u64 ((if x < y + b then 1 else 0 : Nat) : Int)])) w := by
  rw [run_callFunc_extern Try.func62 (by kernel_rfl) (by kernel_rfl) (by kernel_rfl) (e := sub64Entry) (by kernel_rfl), run_sub64 x y b hb]
  rfl

theorem nv_one (n : Nat) : nv [(n : Int)] = n := by
  unfold nv
  rw [val_cons, val_nil, Nat.mul_zero, Nat.add_zero, Int.toNat_natCast]
theorem nv_two (n m : Nat) : nv [(n : Int), (m : Int)] = n + 4294967296 * m := by
  unfold nv
  rw [val_cons, val_cons, val_nil, Nat.mul_zero, Nat.add_zero, Int.toNat_natCast, Int.toNat_natCast]

theorem or_low (m n : Nat) (hn : n < 4294967296) (hm : m < 4294967296) : bits .or .u64 ((m : Int) * 4294967296) (n : Int) = ((n + 4294967296 * m : Nat) : Int) := by
  have e : ((m : Int) * 4294967296) = ((4294967296 * m : Nat) : Int) := by omega
  rw [e, bits_or_u64_nat _ _ (by omega) (by omega)]
  have h := Nat.two_pow_add_eq_or_of_lt (i := 32) (b := n) (by omega) m
  rw [show (2 : Nat) ^ 32 = 4294967296 by rfl] at h
  rw [← h]
  congr 1
  omega
set_option maxHeartbeats 400000 in
theorem uint_zero (A : Option Addr) (c : Nat) (w : World) : Calls Try.prog 33 #[.slice A 0 c] w fun e w' => e = .returned (.tuple #[.int .u64 0, .bool true]) ∧ ∃ n, w' = w.drewN n := by
  go_enter Try.func33, Try.ntmps33
  go_wp2
  go_ret2
  exact ⟨rfl, 0, rfl⟩
set_option maxHeartbeats 400000 in
theorem uint_one (ad : Addr) (n c : Nat) (w : World) (hcell : w.cell? ad = some (.int .u32 (n : Int))) (hn : (n : Int) ≤ 4294967295) : Calls Try.prog 33 #[.slice (some ad) 1 c] w fun e w' => e = .returned (.tuple #[.int .u64 (n : Int), .bool true]) ∧ ∃ n, w' = w.drewN n := by
  go_enter Try.func33, Try.ntmps33
  go_wp2
  go_ret2
  exact ⟨rfl, 0, rfl⟩
set_option maxHeartbeats 400000 in
theorem uint_two (ad : Addr) (n m c : Nat) (w : World) (hcell : w.cell? ad = some (.int .u32 (n : Int))) (hcell1 : w.cell? { block := ad.block, off := ad.off + 1 } = some (.int .u32 (m : Int))) (hn : (n : Int) ≤ 4294967295) (hm : (m : Int) ≤ 4294967295) : Calls Try.prog 33 #[.slice (some ad) 2 c] w fun e w' => e = .returned (.tuple #[.int .u64 ((n + 4294967296 * m : Nat) : Int), .bool true]) ∧ ∃ n, w' = w.drewN n := by
  obtain ⟨r, hr⟩ : ∃ r : Nat, n + 4294967296 * m = r := ⟨_, rfl⟩
  rw [hr]
  have HR := Lib.hid hr
  clear hr
  go_enter Try.func33, Try.ntmps33
  go_wp2
  go_quiet (fail)
  go_wp2
  rw [or_low m n (by omega) (by omega), HR.out]
  go_ret2
  exact ⟨rfl, _, rfl⟩
set_option maxHeartbeats 400000 in
theorem uint_more (A : Option Addr) (n c : Nat) (w : World) (hn : 3 ≤ n) (hl : n ≤ 4611686018427387904) : Calls Try.prog 33 #[.slice A n c] w fun e w' => e = .returned (.tuple #[.int .u64 0, .bool false]) ∧ ∃ n, w' = w.drewN n := by
  have h0 : ((n : Int) == 0) = false := by rw [beq_eq_false_iff_ne]; omega
  have h1 : ((n : Int) == 1) = false := by rw [beq_eq_false_iff_ne]; omega
  have h2 : ((n : Int) == 2) = false := by rw [beq_eq_false_iff_ne]; omega
  go_enter Try.func33, Try.ntmps33
  go_wp2
  go_ret2
  exact ⟨rfl, 0, rfl⟩
theorem uint_lists (A : Option Addr) (xs : List Int) (c : Nat) (w : World) (h : KL .u32 w w.heap.size A xs) (hd : D32 xs) (hl : xs.length ≤ 4611686018427387904) :
    Calls Try.prog 33 #[.slice A xs.length c] w fun e w' => e = .returned (.tuple #[.int .u64 ((if xs.length ≤ 2 then nv xs else 0 : Nat) : Int), .bool (decide (xs.length ≤ 2))]) ∧ ∃ n, w' = w.drewN n := by
  match xs, h, hd, hl with
  | [], _, _, _ => exact uint_zero A c w
  | [x], h, hd, _ =>
    obtain ⟨ad, rfl, _, hcc⟩ := h (by simp)
    have hx1 := hd.head_
    obtain ⟨n, rfl⟩ : ∃ n : Nat, x = n := ⟨x.toNat, by omega⟩
    have := uint_one ad n c w (hcc 0 (by simp)) (by omega)
    rw [← nv_one n] at this
    exact this
  | [x, y], h, hd, _ =>
    obtain ⟨ad, rfl, _, hcc⟩ := h (by simp)
    have hx1 := hd.head_
    have hy1 := hd.tail_.head_
    obtain ⟨n, rfl⟩ : ∃ n : Nat, x = n := ⟨x.toNat, by omega⟩
    obtain ⟨m, rfl⟩ : ∃ m : Nat, y = m := ⟨y.toNat, by omega⟩
    have := uint_two ad n m c w (hcc 0 (by simp)) (hcc 1 (by simp)) (by omega) (by omega)
    rw [← nv_two n m] at this
    exact this
  | x :: y :: z :: zs, h, hd, hl =>
    have := uint_more A (x :: y :: z :: zs).length c w (by simp) hl
    have e1 : (if (x :: y :: z :: zs).length ≤ 2 then nv (x :: y :: z :: zs) else 0) = 0 := by rw [if_neg (by simp)]
    have e2 : decide ((x :: y :: z :: zs).length ≤ 2) = false := by simp
    rw [e1, e2]
    exact this


/-- A limb list is of two at most just where its number is below 2^64. -/
theorem limbs_two {n : Nat} : (limbs n).length ≤ 2 ↔ n < 18446744073709551616 := by
  constructor
  · intro h
    have h1 := limbs_lt n
    have h2 : 4294967296 ^ (limbs n).length ≤ 4294967296 ^ 2 := Nat.pow_le_pow_right (by omega) h
    omega
  · intro h
    exact limbs_len_le (k := 2) (by omega)
theorem uint_any (n : Nat) (A : Option Addr) (c : Nat) (w : World) (h : KL .u32 w w.heap.size A (limbs n)) (hl : (limbs n).length ≤ 4611686018427387904) :
    Calls Try.prog 33 #[.slice A (limbs n).length c] w fun e w' => e = .returned (.tuple #[.int .u64 ((if n < 18446744073709551616 then n else 0 : Nat) : Int), .bool (decide (n < 18446744073709551616))]) ∧ ∃ n, w' = w.drewN n := by
  have := uint_lists A (limbs n) c w h (limbs_dig n) hl
  rw [nv_limbs] at this
  by_cases hn : n < 18446744073709551616
  · rw [if_pos (limbs_two.2 hn), decide_eq_true (limbs_two.2 hn)] at this
    rw [if_pos hn, decide_eq_true hn]
    exact this
  · have hn2 : ¬ (limbs n).length ≤ 2 := fun h => hn (limbs_two.1 h)
    rw [if_neg hn2, decide_eq_false hn2] at this
    rw [if_neg hn, decide_eq_false hn]
    exact this

theorem KL_new {k : IntKind} (w : World) (t : TypeId) (cs : Array Value) (xs : List Int) (hcs : cs.toList = xs.map (Value.int k)) :
    KL k (w.alloc (.cells cs t)) (w.alloc (.cells cs t)).heap.size (some ⟨w.heap.size, 0, none⟩) xs := fun hn => by
  refine ⟨_, rfl, by simp, fun j hj => ?_⟩
  have h1 := cell_of_row (w.alloc (.cells cs t)) w.heap.size j cs t (0, 0) (heap_alloc_new w _)
  have h2 : cs[j]? = some (.int k (xs.getD j 0)) := by
    rw [← Array.getElem?_toList, hcs, List.getElem?_map, List.getElem?_eq_getElem hj, getD_of_lt hj]
    rfl
  rw [← h2, ← h1]
  congr 1
  unfold Addr.add
  by_cases hj0 : j = 0
  · rw [if_pos hj0, hj0]
  · rw [if_neg hj0, Nat.zero_add]

/-- Two limbs in a block of the call's own, trimmed. -/
theorem trim_two (lo hi : Int) (w : World) (h0 : 0 ≤ lo) (h1 : lo < 4294967296) (h2 : 0 ≤ hi) (h3 : hi < 4294967296) (n : Nat) (hn : (n : Int) = lo + 4294967296 * hi) :
    Calls Try.prog 38 #[.slice (some ⟨w.heap.size, 0, none⟩) 2 2] (w.alloc (.cells #[.int .u32 lo, .int .u32 hi] 41)) fun e w' => MadeN n w e w' := by
  have hd : D32 [lo, hi] := Dig.cons_ h0 (by omega) (Dig.cons_ h2 (by omega) Dig.nil_)
  have hk := KL_new (k := .u32) w 41 #[.int .u32 lo, .int .u32 hi] [lo, hi] rfl
  have hv : nv [lo, hi] = n := by
    obtain ⟨a, rfl⟩ : ∃ a : Nat, lo = a := ⟨lo.toNat, by omega⟩
    obtain ⟨b, rfl⟩ : ∃ b : Nat, hi = b := ⟨hi.toNat, by omega⟩
    rw [nv_two]
    omega
  have ht := trim_any _ [lo, hi] 2 _ hk hd (by simp) (by omega)
  have hkl := trim_KL hk hd
  rw [hv] at ht hkl
  refine ht.mono fun e w' ⟨he, hw⟩ => ?_
  subst hw
  exact ⟨_, _, he, hkl, Nat.le_refl _, (Below.refl _ _).alloc (Nat.le_refl _) _⟩

set_option maxHeartbeats 400000 in
theorem of_any (n : Nat) (hn : n < 18446744073709551616) (w : World) : Calls Try.prog 34 #[.int .u64 (n : Int)] w fun e w' => MadeN n w e w' := by
  have hn' : (n : Int) ≤ 18446744073709551615 := by omega
  have HC := Lib.hid (trim_two ((n : Int) % 4294967296) ((n : Int) / 4294967296) w (by omega) (by omega) (by omega) (by omega) n (by omega))
  go_enter Try.func34, Try.ntmps34
  go_wp2_with (go_at_call 38; (with_reducible refine HC.out.mono ?_); rintro e w' ⟨A2, c2, rfl, hA, hc, hb⟩; have HA := Lib.hid hA; have HB := Lib.hid hb; clear hA hb)
  go_ret
  exact ⟨_, _, rfl, HA.out, hc, HB.out⟩
end Go.Proofs.Ytdflhidhnejbbaa
