/- Contracts: pack, unpack, mulShort. -/
import Derived.Test.YtdflhidhnejbbaaBits
namespace Go.Proofs.Ytdflhidhnejbbaa
open Go.RowKit

def W64 (xs : List Int) : Prop := Dig 18446744073709551616 xs
def wv (xs : List Int) : Nat := val 18446744073709551616 xs
theorem u64_info : (Try.prog.info? 36).map (fun i => (i.zero, i.size, i.bytes)) = some (some (.int .u64 0), 1, 8) := by kernel_rfl
theorem long_range {xs : List Int} (h : W64 xs) {k : Nat} (hk : k < xs.length) : 0 ≤ xs.getD k 0 ∧ xs.getD k 0 ≤ 18446744073709551615 := by
  have := h.at_ hk
  omega
theorem W64.set_ {S : List Int} (h : W64 S) {v : Int} (h0 : 0 ≤ v) (h1 : v ≤ 18446744073709551615) (k : Nat) : W64 (S.set k v) := fun x hx => by
  rcases List.mem_or_eq_of_mem_set hx with hx | rfl
  · exact h x hx
  · exact ⟨h0, by omega⟩

/-- Two limbs a word. -/
def packL (n : Nat) (xs : List Int) : List Int := (List.range n).map fun j => xs.getD (2 * j) 0 + 4294967296 * xs.getD (2 * j + 1) 0
theorem packL_length (n : Nat) (xs : List Int) : (packL n xs).length = n := by simp [packL]
theorem packL_getD {n : Nat} {xs : List Int} {j : Nat} (h : j < n) : (packL n xs).getD j 0 = xs.getD (2 * j) 0 + 4294967296 * xs.getD (2 * j + 1) 0 := by
  unfold packL
  rw [List.getD_eq_getElem?_getD, List.getElem?_map, List.getElem?_range h]
  rfl
theorem getD_take {xs : List Int} {k j : Nat} (h : j < k) : (xs.take k).getD j 0 = xs.getD j 0 := by
  simp [List.getD_eq_getElem?_getD, h]
theorem getD_take_out {xs : List Int} {k j : Nat} (h : k ≤ j) : (xs.take k).getD j 0 = 0 := by
  have : ¬ j < k := by omega
  simp [List.getD_eq_getElem?_getD, List.getElem?_take, this]
theorem getD_out {xs : List Int} {j : Nat} (h : xs.length ≤ j) : xs.getD j 0 = 0 := by
  simp [List.getD_eq_getElem?_getD, h]
theorem D32.get {xs : List Int} (h : D32 xs) (k : Nat) : 0 ≤ xs.getD k 0 ∧ xs.getD k 0 < 4294967296 := by
  rcases Nat.lt_or_ge k xs.length with hk | hk
  · exact word_range h hk
  · rw [getD_out hk]; omega
theorem packL_dig (n : Nat) {xs : List Int} (h : D32 xs) : W64 (packL n xs) := fun x hx => by
  unfold packL at hx
  obtain ⟨j, _, rfl⟩ := List.mem_map.1 hx
  have h1 := h.get (2 * j)
  have h2 := h.get (2 * j + 1)
  omega
theorem packL_val {xs : List Int} (h : D32 xs) (n : Nat) : wv (packL n xs) = nv (xs.take (2 * n)) := by
  induction n with
  | zero => simp [packL, wv, nv, val]
  | succ n ih =>
    have e : packL (n + 1) xs = packL n xs ++ [xs.getD (2 * n) 0 + 4294967296 * xs.getD (2 * n + 1) 0] := by simp [packL, List.range_succ]
    have h1 := h.get (2 * n)
    have h2 := h.get (2 * n + 1)
    unfold wv nv at *
    rw [e, val_snoc, ih, packL_length, show 2 * (n + 1) = 2 * n + 1 + 1 by omega, val_take_step, val_take_step, Nat.pow_succ, Nat.pow_mul]
    have e2 : (xs.getD (2 * n) 0 + 4294967296 * xs.getD (2 * n + 1) 0).toNat = (xs.getD (2 * n) 0).toNat + 4294967296 * (xs.getD (2 * n + 1) 0).toNat := by omega
    rw [e2, Nat.mul_add, Nat.mul_assoc, show (4294967296 : Nat) ^ 2 = 18446744073709551616 by rfl]
    omega
theorem packL_nil (n : Nat) (xs : List Int) : packL n (xs.take 0) = List.replicate n 0 := by
  apply List.ext_getElem (by simp [packL_length])
  intro i h1 h2
  rw [packL_length] at h1
  rw [← getD_of_lt (by rw [packL_length]; exact h1), packL_getD h1]
  simp
/-- One limb more. -/
theorem packL_step (n : Nat) (xs : List Int) (k : Nat) : packL n (xs.take (k + 1)) = (packL n (xs.take k)).set (k / 2) (if k % 2 = 0 then xs.getD k 0 else xs.getD (k - 1) 0 + 4294967296 * xs.getD k 0) := by
  apply List.ext_getElem (by simp [packL_length])
  intro i h1 h2
  rw [packL_length] at h1
  rw [← getD_of_lt (by rw [packL_length]; exact h1), packL_getD h1]
  rw [List.getElem_set]
  by_cases e : k / 2 = i
  · rw [if_pos e]
    by_cases p : k % 2 = 0
    · rw [if_pos p, show 2 * i = k by omega, getD_take (by omega), getD_take_out (by omega)]
      omega
    · rw [if_neg p, show 2 * i = k - 1 by omega, getD_take (by omega), show k - 1 + 1 = k by omega, getD_take (by omega)]
  · rw [if_neg e, ← getD_of_lt (by rw [packL_length]; exact h1), packL_getD h1]
    rcases Nat.lt_or_ge (2 * i) k with hlt | hge
    · rw [getD_take (k := k + 1) (j := 2 * i) (by omega), getD_take (k := k) (j := 2 * i) (by omega), getD_take (k := k + 1) (j := 2 * i + 1) (by omega), getD_take (k := k) (j := 2 * i + 1) (by omega)]
    · rw [getD_take_out (by omega), getD_take_out (by omega), getD_take_out (by omega), getD_take_out (by omega)]

/-- Words that were made: a row of the call's own. -/
def MadeW (L v : Nat) (w : World) (e : Ending) (w' : World) : Prop :=
  ∃ (g : Nat) (ws : List Int), ws.length = L ∧ W64 ws ∧ wv ws = v ∧ e = .returned (.slice (some ⟨g, 0, none⟩) L L) ∧ w'.ownsRow w.heap.size 36 1 (.slice (some ⟨g, 0, none⟩) L L) L (ws.map (Value.int .u64)) ∧ Below w.heap.size w w'

set_option maxHeartbeats 1000000 in
theorem pack_any (A : Option Addr) (xs : List Int) (c : Nat) (w : World) (h : KL .u32 w w.heap.size A xs) (hd : D32 xs) (hl : xs.length ≤ 1099511627776) :
    Calls Try.prog 43 #[.slice A xs.length c] w fun e w' => MadeW ((xs.length + 1) / 2) (nv xs) w e w' := by
  obtain ⟨i0, hi0, hz0, hz1, hz2⟩ := info_parts u64_info
  obtain ⟨n, hn⟩ : ∃ n, (xs.length + 1) / 2 = n := ⟨_, rfl⟩
  have hn' : ((xs.length : Int) + 1) / 2 = (n : Int) := by omega
  have hn2 : xs.length ≤ 2 * n := by omega
  have hn3 : 2 * n ≤ xs.length + 1 := by omega
  rw [hn]
  have H := Lib.hid h; clear h
  have HD := Lib.hid hd; clear hd hn
  go_enter Try.func43, Try.ntmps43
  go_wp2_with (at_make; refine wpList_make_full _ rfl _ _ 47 rfl w.heap.size 36 i0 (.int .u64 0) 1 Try.underlying47 hi0 hz0 hz1 _ _ _ _ n rfl rfl hn' hn' (by rw [hz2]; omega) (by unfold maxLen; omega) (Nat.le_refl _) ?_; intro w1 hown hg; have HO := Lib.hid (own_zeros hown); have HB := Lib.hid ((Below.refl w.heap.size w).grown hg (Nat.le_refl _) (fun k hk => by cases hk)); clear hown hg)
  go_loopw [13] (fun i wr => ∃ k : Nat, k ≤ xs.length ∧ i = .int .i64 k ∧ wr.ownsRow w.heap.size 36 1 (.slice (some ⟨w.heap.size, 0, none⟩) n n) n ((packL n (xs.take k)).map (Value.int .u64)) ∧ Below w.heap.size w wr) (fun i _ => xs.length - (intOf i).toNat)
  case atStart => exact ⟨0, Nat.zero_le _, rfl, by rw [packL_nil]; exact HO.out, HB.out⟩
  case round =>
    obtain ⟨k, hk, rfl, hown, hbw⟩ := hrel
    by_cases hlt : k < xs.length
    · obtain ⟨ad, rfl, hab, hcc⟩ := (H.out.below hbw) (by omega)
      have hcell := hcc k hlt
      have hx1 := word_range HD.out hlt
      have hst := packL_step n xs k
      have hprev := packL_getD (n := n) (xs := xs.take k) (j := k / 2) (by omega)
      have hfz := hown.frozenAt (k / 2)
      have hcu := own_cell hown (j := k / 2) (by omega)
      rw [hprev] at hcu
      have hin : k / 2 < n := by omega
      obtain ⟨x, hx⟩ : ∃ x : Nat, xs.getD k 0 = x := ⟨(xs.getD k 0).toNat, by omega⟩
      rw [hx] at hcell hx1 hst
      obtain ⟨l, hl⟩ : ∃ l : Nat, (xs.take k).getD (2 * (k / 2)) 0 + 4294967296 * (xs.take k).getD (2 * (k / 2) + 1) 0 = l ∧ (k % 2 = 0 → l = 0) ∧ l < 4294967296 ∧ (k % 2 = 1 → xs.getD (k - 1) 0 = l) := by
        rw [getD_take_out (j := 2 * (k / 2) + 1) (by omega)]
        by_cases hp : k % 2 = 0
        · rw [getD_take_out (by omega)]
          exact ⟨0, by omega, fun _ => rfl, by omega, fun h => by omega⟩
        · rw [getD_take (by omega), show 2 * (k / 2) = k - 1 by omega]
          have := word_range HD.out (k := k - 1) (by omega)
          exact ⟨(xs.getD (k - 1) 0).toNat, by omega, fun h => by omega, by omega, fun _ => by omega⟩
      rw [hl.1] at hcu
      have HE : Hid (bits .or .u64 (l : Int) (IntKind.u64.wrap ((x : Int) * 2 ^ (k % 2 * 32))) = (if k % 2 = 0 then (x : Int) else xs.getD (k - 1) 0 + 4294967296 * x)) := Lib.hid (by
        rcases Nat.mod_two_eq_zero_or_one k with hp | hp
        · rw [if_pos hp, hl.2.1 hp, hp, IntKind.wrap_u64]
          have e : (x : Int) * 2 ^ (0 * 32) % 18446744073709551616 = x := by simp only [Nat.zero_mul, Int.pow_zero, Int.mul_one]; omega
          rw [e, show ((0 : Nat) : Int) = 0 by rfl]
          have := bits_or_u64_nat 0 x (by omega) (by omega)
          rw [Nat.zero_or] at this
          exact this
        · rw [if_neg (by omega), hl.2.2.2 hp, hp, IntKind.wrap_u64]
          have e : (x : Int) * 2 ^ (1 * 32) % 18446744073709551616 = ((4294967296 * x : Nat) : Int) := by
            rw [show (2 : Int) ^ (1 * 32) = 4294967296 by rfl]
            omega
          rw [e, bits_or_u64_nat l _ (by omega) (by omega), Nat.or_comm]
          have h := Nat.two_pow_add_eq_or_of_lt (i := 32) (b := l) (by omega) x
          rw [show (2 : Nat) ^ 32 = 4294967296 by rfl] at h
          rw [← h]
          omega)
      have hown2 := own_set hown (k / 2) (if k % 2 = 0 then (x : Int) else xs.getD (k - 1) 0 + 4294967296 * x)
      rw [← hst] at hown2
      have HO2 := Lib.hid hown2
      have HB2 := Lib.hid (hbw.setCell (p := ⟨w.heap.size, k / 2, none⟩) (Nat.le_refl _) (.int .u64 (if k % 2 = 0 then (x : Int) else xs.getD (k - 1) 0 + 4294967296 * x)))
      have hl2 : l < 4294967296 := hl.2.2.1
      clear hcc hst hprev hown hbw hx hown2 hl
      go_wp2
      go_roundw
      case rel => exact ⟨k + 1, by omega, by go_num, by rw [HE.out]; exact HO2.out, by rw [HE.out]; exact HB2.out⟩
      case measure => simp [intOf] <;> omega
    · obtain rfl : k = xs.length := by omega
      have hfin : packL n (xs.take xs.length) = packL n xs := by rw [List.take_of_length_le (Nat.le_refl _)]
      rw [hfin] at hown
      have hval : wv (packL n xs) = nv xs := by rw [packL_val HD.out]; exact congrArg nv (List.take_of_length_le hn2)
      have HO2 := Lib.hid hown
      have HB2 := Lib.hid hbw
      have HV := Lib.hid hval
      clear hown hbw hval hfin
      go_wp2
      go_ret
      exact ⟨w.heap.size, packL n xs, packL_length n xs, packL_dig n HD.out, HV.out, rfl, HO2.out, HB2.out⟩
end Go.Proofs.Ytdflhidhnejbbaa
