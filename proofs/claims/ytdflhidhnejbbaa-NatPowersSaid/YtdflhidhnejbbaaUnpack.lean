/- Contracts: unpack, mulShort. -/
import Derived.Test.YtdflhidhnejbbaaPack
namespace Go.Proofs.Ytdflhidhnejbbaa
open Go.RowKit

/-- What stands there behind k words. -/
def unpK (ws : List Int) (k : Nat) : List Int := (List.range (2 * ws.length)).map fun i => if i / 2 < k then (if i % 2 = 0 then ws.getD (i / 2) 0 % 4294967296 else ws.getD (i / 2) 0 / 4294967296) else 0
theorem unpK_length (ws : List Int) (k : Nat) : (unpK ws k).length = 2 * ws.length := by simp [unpK]
theorem unpK_zero (ws : List Int) : unpK ws 0 = List.replicate (2 * ws.length) 0 := by
  apply List.ext_getElem (by simp [unpK_length])
  intro i h1 h2
  simp [unpK]
theorem unpK_dig {ws : List Int} (h : W64 ws) (k : Nat) : D32 (unpK ws k) := fun x hx => by
  unfold unpK at hx
  obtain ⟨i, hi, rfl⟩ := List.mem_map.1 hx
  have hi' : i / 2 < ws.length := by have := List.mem_range.1 hi; omega
  have := long_range h hi'
  split
  · split <;> omega
  · omega
theorem unpK_step (ws : List Int) (k : Nat) (x : Int) (hx : ws.getD k 0 = x) : unpK ws (k + 1) = ((unpK ws k).set (2 * k) (x % 4294967296)).set (2 * k + 1) (x / 4294967296) := by
  apply List.ext_getElem (by simp [unpK_length])
  intro i h1 h2
  rw [List.getElem_set, List.getElem_set]
  simp only [unpK, List.getElem_map, List.getElem_range]
  by_cases e1 : 2 * k + 1 = i
  · rw [if_pos e1, if_pos (by omega), if_neg (by omega), show i / 2 = k by omega, hx]
  · rw [if_neg e1]
    by_cases e2 : 2 * k = i
    · rw [if_pos e2, if_pos (by omega), if_pos (by omega), show i / 2 = k by omega, hx]
    · rw [if_neg e2]
      have e3 : (i / 2 < k + 1) ↔ (i / 2 < k) := by omega
      simp only [e3]
theorem unpK_val {ws : List Int} (h : W64 ws) : nv (unpK ws ws.length) = wv ws := by
  have key : ∀ k, k ≤ ws.length → val 4294967296 ((unpK ws ws.length).take (2 * k)) = val 18446744073709551616 (ws.take k) := by
    intro k
    induction k with
    | zero => intro _; simp [val]
    | succ k ih =>
      intro hk
      have g : ∀ i, i < 2 * ws.length → (unpK ws ws.length).getD i 0 = if i % 2 = 0 then ws.getD (i / 2) 0 % 4294967296 else ws.getD (i / 2) 0 / 4294967296 := by
        intro i hi
        rw [getD_of_lt (by rw [unpK_length]; exact hi)]
        simp only [unpK, List.getElem_map, List.getElem_range]
        rw [if_pos (by omega)]
      rw [show 2 * (k + 1) = 2 * k + 1 + 1 by omega, val_take_step, val_take_step, val_take_step, ih (by omega), g _ (by omega), g _ (by omega), if_pos (by omega), if_neg (by omega), show 2 * k / 2 = k by omega, show (2 * k + 1) / 2 = k by omega, Nat.pow_succ, Nat.pow_mul, show (4294967296 : Nat) ^ 2 = 18446744073709551616 by rfl]
      have := long_range h (k := k) (by omega)
      obtain ⟨x, hx⟩ : ∃ x : Nat, ws.getD k 0 = x := ⟨(ws.getD k 0).toNat, by omega⟩
      rw [hx, show ((x : Int) % 4294967296).toNat = x % 4294967296 by omega, show ((x : Int) / 4294967296).toNat = x / 4294967296 by omega, Int.toNat_natCast]
      have e : x = x % 4294967296 + 4294967296 * (x / 4294967296) := (Nat.mod_add_div x 4294967296).symm
      have e2 : 18446744073709551616 ^ k * x = 18446744073709551616 ^ k * (x % 4294967296) + 18446744073709551616 ^ k * 4294967296 * (x / 4294967296) := by
        rw [Nat.mul_assoc, ← Nat.mul_add, ← e]
      omega
  have := key ws.length (Nat.le_refl _)
  rw [List.take_of_length_le (by rw [unpK_length]; omega), List.take_of_length_le (Nat.le_refl _)] at this
  exact this

set_option maxHeartbeats 1000000 in
theorem unpack_any (A : Option Addr) (ws : List Int) (c : Nat) (w : World) (h : KL .u64 w w.heap.size A ws) (hd : W64 ws) (hl : ws.length ≤ 1099511627776) :
    Calls Try.prog 44 #[.slice A ws.length c] w fun e w' => MadeN (wv ws) w e w' := by
  obtain ⟨i0, hi0, hz0, hz1, hz2⟩ := info_parts u32_info
  have H := Lib.hid h; clear h
  have HD := Lib.hid hd; clear hd
  go_enter Try.func44, Try.ntmps44
  go_wp2_with (at_make; refine wpList_make_full _ rfl _ _ 22 rfl w.heap.size 41 i0 (.int .u32 0) 1 Try.underlying22 hi0 hz0 hz1 _ _ _ _ (2 * ws.length) rfl rfl (by simp) (by simp) (by rw [hz2]; omega) (by unfold maxLen; omega) (Nat.le_refl _) ?_; intro w1 hown hg; have HO := Lib.hid (own_zeros hown); have HB := Lib.hid ((Below.refl w.heap.size w).grown hg (Nat.le_refl _) (fun k hk => by cases hk)); clear hown hg)
  go_loopw [12] (fun i wr => ∃ k : Nat, k ≤ ws.length ∧ i = .int .i64 k ∧ wr.ownsRow w.heap.size 41 1 (.slice (some ⟨w.heap.size, 0, none⟩) (2 * ws.length) (2 * ws.length)) (2 * ws.length) ((unpK ws k).map (Value.int .u32)) ∧ Below w.heap.size w wr) (fun i _ => ws.length - (intOf i).toNat)
  case atStart => exact ⟨0, Nat.zero_le _, rfl, by rw [unpK_zero]; exact HO.out, HB.out⟩
  case round =>
    obtain ⟨k, hk, rfl, hown, hbw⟩ := hrel
    by_cases hlt : k < ws.length
    · obtain ⟨ad, rfl, hab, hcc⟩ := (H.out.below hbw) (by omega)
      have hcell := hcc k hlt
      have hx1 := long_range HD.out hlt
      obtain ⟨x, hx⟩ : ∃ x : Nat, ws.getD k 0 = x := ⟨(ws.getD k 0).toNat, by omega⟩
      rw [hx] at hcell hx1
      have hst := unpK_step ws k x hx
      have hfz := hown.frozenAt (2 * k)
      have hfz2 := hown.frozenAt (2 * k + 1)
      have hcu := own_cell hown (j := 2 * k) (by omega)
      have hcu2 := own_cell hown (j := 2 * k + 1) (by omega)
      obtain ⟨u, hu⟩ : ∃ u, (unpK ws k).getD (2 * k) 0 = u := ⟨_, rfl⟩
      obtain ⟨u2, hu2⟩ : ∃ u, (unpK ws k).getD (2 * k + 1) 0 = u := ⟨_, rfl⟩
      rw [hu] at hcu
      rw [hu2] at hcu2
      have hown2 := own_set (own_set hown (2 * k) ((x : Int) % 4294967296)) (2 * k + 1) ((x : Int) / 4294967296)
      rw [← hst] at hown2
      have HO2 := Lib.hid hown2
      have HB2 := Lib.hid ((hbw.setCell (p := ⟨w.heap.size, 2 * k, none⟩) (Nat.le_refl _) (.int .u32 ((x : Int) % 4294967296))).setCell (p := ⟨w.heap.size, 2 * k + 1, none⟩) (Nat.le_refl _) (.int .u32 ((x : Int) / 4294967296)))
      clear hcc hst hown hbw hx hown2 hu hu2
      go_wp2
      go_roundw
      case rel => exact ⟨k + 1, by omega, by go_num, HO2.out, HB2.out⟩
      case measure => simp [intOf] <;> omega
    · obtain rfl : k = ws.length := by omega
      have hval := unpK_val HD.out
      have hdig := unpK_dig HD.out ws.length
      obtain ⟨hrl, hrc, hrow⟩ := KL.of_own hown
      have HT : Hid _ := Lib.hid (trim_any (some ⟨w.heap.size, 0, none⟩) (unpK ws ws.length) (2 * ws.length) _ hrow hdig (by omega) (by omega))
      have hkl := trim_KL hrow hdig
      rw [hval, unpK_length] at HT
      rw [hval] at hkl
      have HKL := Lib.hid hkl
      have HBW := Lib.hid hbw
      clear hown hbw hval hdig hrl hrc hrow hkl
      go_wp2_with (go_at_call 38; (with_reducible refine HT.out.mono ?_); rintro e w' ⟨rfl, rfl⟩)
      go_ret
      exact ⟨_, _, rfl, HKL.out, Nat.le_refl _, HBW.out⟩

/-- Four limbs in a block of the call's own, trimmed. -/
theorem trim_four (a b c d : Int) (w : World) (ha : 0 ≤ a ∧ a < 4294967296) (hb : 0 ≤ b ∧ b < 4294967296) (hc : 0 ≤ c ∧ c < 4294967296) (hd : 0 ≤ d ∧ d < 4294967296) (n : Nat) (hn : (n : Int) = a + 4294967296 * (b + 4294967296 * (c + 4294967296 * d))) :
    Calls Try.prog 38 #[.slice (some ⟨w.heap.size, 0, none⟩) 4 4] (w.alloc (.cells #[.int .u32 a, .int .u32 b, .int .u32 c, .int .u32 d] 41)) fun e w' => MadeN n w e w' := by
  have hdg : D32 [a, b, c, d] := Dig.cons_ ha.1 (by omega) (Dig.cons_ hb.1 (by omega) (Dig.cons_ hc.1 (by omega) (Dig.cons_ hd.1 (by omega) Dig.nil_)))
  have hk := KL_new (k := .u32) w 41 #[.int .u32 a, .int .u32 b, .int .u32 c, .int .u32 d] [a, b, c, d] rfl
  have hv : nv [a, b, c, d] = n := by
    unfold nv
    rw [val_cons, val_cons, val_cons, val_cons, val_nil]
    omega
  have ht := trim_any _ [a, b, c, d] 4 _ hk hdg (by simp) (by omega)
  have hkl := trim_KL hk hdg
  rw [hv] at ht hkl
  refine ht.mono fun e w' ⟨he, hw⟩ => ?_
  subst hw
  exact ⟨_, _, he, hkl, Nat.le_refl _, (Below.refl _ _).alloc (Nat.le_refl _) _⟩

set_option maxHeartbeats 1000000 in
theorem mulShort_any (n m : Nat) (A B : Option Addr) (c d : Nat) (w : World) (h : KL .u32 w w.heap.size A (limbs n)) (h' : KL .u32 w w.heap.size B (limbs m)) (hn : n < 18446744073709551616) (hm : m < 18446744073709551616) :
    Calls Try.prog 46 #[.slice A (limbs n).length c, .slice B (limbs m).length d] w fun e w' => MadeN (n * m) w e w' := by
  have h1 := limbs_two.2 hn
  have h2 := limbs_two.2 hm
  have hU : Hid (∀ W : World, Below w.heap.size w W → Calls Try.prog 33 #[.slice A (limbs n).length c] W fun e w' => e = .returned (.tuple #[.int .u64 (n : Int), .bool true]) ∧ Below W.heap.size W w') :=
    Lib.hid fun W hb => by
      have := uint_any n A c W (h.up hb) (by omega)
      rw [if_pos hn, decide_eq_true hn] at this
      exact this.mono fun _ _ h => ⟨h.1, below_of_drewN (Below.refl _ _) h.2⟩
  have hV : Hid (∀ W : World, Below w.heap.size w W → Calls Try.prog 33 #[.slice B (limbs m).length d] W fun e w' => e = .returned (.tuple #[.int .u64 (m : Int), .bool true]) ∧ Below W.heap.size W w') :=
    Lib.hid fun W hb => by
      have := uint_any m B d W (h'.up hb) (by omega)
      rw [if_pos hm, decide_eq_true hm] at this
      exact this.mono fun _ _ h => ⟨h.1, below_of_drewN (Below.refl _ _) h.2⟩
  obtain ⟨hi, hhi⟩ : ∃ hi, n * m / 18446744073709551616 = hi := ⟨_, rfl⟩
  obtain ⟨lo, hlo⟩ : ∃ lo, n * m % 18446744073709551616 = lo := ⟨_, rfl⟩
  have hmul : Hid (∀ W : World, Calls Try.prog 55 #[.int .u64 (n : Int), .int .u64 (m : Int)] W fun e w' => e = .returned (.tuple #[.int .u64 (hi : Int), .int .u64 (lo : Int)]) ∧ W = w') :=
    Lib.hid fun W => by rw [← hhi, ← hlo]; exact (Try.bits_Mul64 n m hn hm W).mono fun _ _ h => ⟨h.1, h.2.symm⟩
  have hnm : n * m < 18446744073709551616 * 18446744073709551616 := Nat.mul_lt_mul'' hn hm
  have hval : n * m = lo + 18446744073709551616 * hi := by rw [← hhi, ← hlo]; exact (Nat.mod_add_div _ _).symm
  have hlo1 : (lo : Int) ≤ 18446744073709551615 := by omega
  have hhi1 : (hi : Int) ≤ 18446744073709551615 := by omega
  have hOf : Hid (hi = 0 → ∀ W : World, Calls Try.prog 34 #[.int .u64 (lo : Int)] W fun e w' => MadeN (n * m) W e w') :=
    Lib.hid fun h0 W => by
      rw [hval, h0, Nat.mul_zero, Nat.add_zero]
      exact of_any lo (by omega) W
  have hT : Hid (∀ W : World, Calls Try.prog 38 #[.slice (some ⟨W.heap.size, 0, none⟩) 4 4] (W.alloc (.cells #[.int .u32 ((lo : Int) % 4294967296), .int .u32 ((lo : Int) / 4294967296), .int .u32 ((hi : Int) % 4294967296), .int .u32 ((hi : Int) / 4294967296)] 41)) fun e w' => MadeN (n * m) W e w') :=
    Lib.hid fun W => trim_four _ _ _ _ W (by omega) (by omega) (by omega) (by omega) _ (by omega)
  clear h h' hn hm h1 h2 hhi hlo hnm hval
  by_cases h0 : hi = 0
  · have HOF := Lib.hid (hOf.out h0)
    subst h0
    go_enter Try.func46, Try.ntmps46
    go_wp2_with (first
      | (go_at_call 33; (with_reducible refine (hU.out _ (Below.refl _ _)).mono ?_); rintro e w1 ⟨rfl, hb⟩; have HB1 := Lib.hid hb; clear hb)
      | (go_at_call 33; (with_reducible refine (hV.out _ HB1.out).mono ?_); rintro e w2 ⟨rfl, hb⟩; have HB2 := Lib.hid (below_chain HB1.out hb); clear hb)
      | (go_at_call 55; (with_reducible refine (hmul.out _).mono ?_); rintro e w' ⟨rfl, rfl⟩)
      | (go_at_call 34; (with_reducible refine (HOF.out _).mono ?_); rintro e w3 ⟨A2, c2, rfl, hA, hc, hb⟩; have HA := Lib.hid hA; have HB3 := Lib.hid (below_chain HB2.out hb); clear hA hb))
    go_ret
    exact ⟨_, _, rfl, HA.out, hc, HB3.out⟩
  · have hb0 : ((hi : Int) == 0) = false := by rw [beq_eq_false_iff_ne]; omega
    go_enter Try.func46, Try.ntmps46
    go_wp2_with (first
      | (go_at_call 33; (with_reducible refine (hU.out _ (Below.refl _ _)).mono ?_); rintro e w1 ⟨rfl, hb⟩; have HB1 := Lib.hid hb; clear hb)
      | (go_at_call 33; (with_reducible refine (hV.out _ HB1.out).mono ?_); rintro e w2 ⟨rfl, hb⟩; have HB2 := Lib.hid (below_chain HB1.out hb); clear hb)
      | (go_at_call 55; (with_reducible refine (hmul.out _).mono ?_); rintro e w' ⟨rfl, rfl⟩)
      | (go_at_call 38; (with_reducible refine (hT.out _).mono ?_); rintro e w3 ⟨A2, c2, rfl, hA, hc, hb⟩; have HA := Lib.hid hA; have HB3 := Lib.hid (below_chain HB2.out hb); clear hA hb))
    go_ret
    exact ⟨_, _, rfl, HA.out, hc, HB3.out⟩
end Go.Proofs.Ytdflhidhnejbbaa
