/- Contracts: addInto, subFrom. -/
import Derived.Test.YtdflhidhnejbbaaDivI
namespace Go.Proofs.Ytdflhidhnejbbaa
open Go.RowKit

/-- Reads as the numbers xs, and lies elsewhere than block g. -/
def KN (k : IntKind) (w : World) (g : Nat) (A : Option Addr) (xs : List Int) : Prop :=
  0 < xs.length → ∃ ad, A = some ad ∧ (ad.block ≠ g ∧ ad.block < w.heap.size) ∧ ∀ j, j < xs.length → w.cell? (ad.add j) = some (.int k (xs.getD j 0))
theorem KL.kn {k : IntKind} {w : World} {B g : Nat} {A : Option Addr} {xs : List Int} (h : KL k w B A xs) (hB : B ≤ g) (hw : B ≤ w.heap.size) : KN k w g A xs := fun hn => by
  obtain ⟨ad, e, hb, hc⟩ := h hn
  exact ⟨ad, e, ⟨by omega, by omega⟩, hc⟩
theorem KN.grown {k : IntKind} {w w' : World} {g : Nat} {A : Option Addr} {xs : List Int} (h : KN k w g A xs) (hg : w.grownBy w' (some g)) : KN k w' g A xs := fun hn => by
  obtain ⟨ad, e, hb, hc⟩ := h hn
  exact ⟨ad, e, ⟨hb.1, Nat.lt_of_lt_of_le hb.2 hg.size⟩, fun j hj => (hg.cell_far _ (by rw [block_of_add]; exact hb.2) (by rw [block_of_add]; simpa using hb.1)).trans (hc j hj)⟩

/-- The same row, other words: nothing else has turned. -/
def Put (base g N v : Nat) (w w' : World) : Prop :=
  ∃ S : List Int, S.length = N ∧ W64 S ∧ wv S = v ∧ w'.ownsRow base 36 1 (.slice (some ⟨g, 0, none⟩) N N) N (S.map (Value.int .u64)) ∧ w.grownBy w' (some g)
theorem take_more {b : Nat} {xs : List Int} {i : Nat} (h : val b xs < b ^ i) : val b (xs.take i) = val b xs := by
  rcases Nat.lt_or_ge i xs.length with hl | hl
  · exact take_small (by omega) h
  · rw [List.take_of_length_le hl]
theorem take_le (b : Nat) (xs : List Int) (i : Nat) : val b (xs.take i) ≤ val b xs := by
  rcases Nat.lt_or_ge i xs.length with hl | hl
  · have := val_take_drop (b := b) (xs := xs) i (by omega)
    omega
  · rw [List.take_of_length_le hl]; exact Nat.le_refl _
theorem into_end {B j i N c s S Y Yt : Nat} (hN : j + i = N) (h : s + B ^ (j + i) * c = S + B ^ j * Yt) (hY : Yt = Y) (hlt : S + B ^ j * Y < B ^ N) : s = S + B ^ j * Y := by
  rw [hN, hY] at h
  rcases Nat.eq_zero_or_pos c with h0 | h0
  · rw [h0, Nat.mul_zero, Nat.add_zero] at h; exact h
  · have : B ^ N * 1 ≤ B ^ N * c := Nat.mul_le_mul_left _ h0
    omega
theorem into_small {B j i N S Y : Nat} (hB : 0 < B) (hN : j + i = N) (hlt : S + B ^ j * Y < B ^ N) : Y < B ^ i := by
  have h1 : B ^ j * Y < B ^ j * B ^ i := by rw [← Nat.pow_add, hN]; omega
  exact Nat.lt_of_mul_lt_mul_left h1
theorem from_step {B W s s' X r t y c c' a Pi : Nat} (h1 : s' + Pi * r = s + Pi * t) (h2 : s + a = X + Pi * c) (h3 : t + y + c = r + B * c') (hP : Pi = W) : s' + (a + W * y) = X + Pi * B * c' := by
  have e : Pi * (t + y + c) = Pi * (r + B * c') := by rw [h3]
  rw [Nat.mul_add, Nat.mul_add, Nat.mul_add, ← Nat.mul_assoc] at e
  rw [← hP]
  omega

set_option maxHeartbeats 4000000 in
theorem addInto_free (base g : Nat) (V : Option Addr) (S ys : List Int) (j ca N cb : Nat) (w : World) (hown : w.ownsRow base 36 1 (.slice (some ⟨g, 0, none⟩) N N) N (S.map (Value.int .u64))) (hV : KN .u64 w g V ys) (hd : W64 S) (hd' : W64 ys) (hSl : S.length = N) (hNl : N ≤ 1099511627776) (hyl : ys.length ≤ 1099511627776) (hj : j ≤ N) (hlt : wv S + 18446744073709551616 ^ j * wv ys < 18446744073709551616 ^ N) :
    Calls Try.prog 57 #[.slice (some ⟨g, j, none⟩) (N - j : Nat) ca, .slice V ys.length cb] w fun e w' => e = .returned (.tuple #[]) ∧ Put base g N (wv S + 18446744073709551616 ^ j * wv ys) w w' := by
  have hbg := (hown.lt g rfl).1
  have HBZ : Hid (base ≤ w.heap.size) := Lib.hid (Nat.le_trans hbg (Nat.le_of_lt (hown.lt g rfl).2))
  have HO := Lib.hid hown
  have HV := Lib.hid hV
  have HD := Lib.hid hd
  have HD' := Lib.hid hd'
  have HSL := Lib.hid hSl
  have HL := Lib.hid hlt
  clear hown hV hd hd' hSl hlt
  go_enter Try.func57, Try.ntmps57
  go_wp2
  go_loopw [4, 5] (fun cv iv wr => ∃ (i c : Nat) (S' : List Int), i ≤ N - j ∧ iv = .int .i64 i ∧ cv = .int .u64 c ∧ c ≤ 1 ∧ S'.length = N ∧ W64 S' ∧ wv S' + 18446744073709551616 ^ (j + i) * c = wv S + 18446744073709551616 ^ j * val 18446744073709551616 (ys.take i) ∧
      wr.ownsRow base 36 1 (.slice (some ⟨g, 0, none⟩) N N) N (S'.map (Value.int .u64)) ∧ w.grownBy wr (some g)) (fun _ iv _ => N - j - (intOf iv).toNat)
  case atStart => exact ⟨0, 0, S, Nat.zero_le _, rfl, rfl, by omega, HSL.out, HD.out, by simp [val], HO.out, World.grownBy.refl _ _⟩
  case round =>
    obtain ⟨i, c, S', hi, rfl, rfl, hc, hSl', hSd', hinv, hown, hbw⟩ := hrel
    obtain ⟨wo, rfl⟩ : ∃ wo : World, wo = wr := ⟨_, rfl⟩
    by_cases hstop : ys.length ≤ i ∧ c = 0
    · obtain ⟨hge, rfl⟩ := hstop
      have HR : Hid (wv S' = wv S + 18446744073709551616 ^ j * wv ys) := Lib.hid (by have hlt := HL.out; exact (by rw [List.take_of_length_le hge] at hinv; rw [Nat.mul_zero, Nat.add_zero] at hinv; exact hinv))
      have HP : Hid (Put base g N (wv S + 18446744073709551616 ^ j * wv ys) w wo) := Lib.hid ⟨S', hSl', hSd', HR.out, hown, hbw⟩
      have hgei : ¬ (i : Int) < (ys.length : Int) := by omega
      clear hSl' hSd' hinv hown hbw
      go_wp2
      go_end0
      exact ⟨rfl, HP.out⟩
    · by_cases hful : N - j ≤ i
      · have HR : Hid (wv S' = wv S + 18446744073709551616 ^ j * wv ys) := Lib.hid (by
          have hlt := HL.out
          exact into_end (by omega) hinv (take_more (into_small (i := i) (by omega) (by omega) hlt)) hlt)
        have HP : Hid (Put base g N (wv S + 18446744073709551616 ^ j * wv ys) w wo) := Lib.hid ⟨S', hSl', hSd', HR.out, hown, hbw⟩
        have hfi : ((N - j : Nat) : Int) ≤ (i : Int) := by omega
        by_cases hlt2 : i < ys.length
        · clear hSl' hSd' hinv hown hbw hful hstop
          go_wp2
          refine bodyPost_ret (results_none rfl _ _ _) rfl ?_
          exact ⟨rfl, HP.out⟩
        · have hcb1 : ((c : Int) == 0) = false := by rw [beq_eq_false_iff_ne]; omega
          have hcb2 : ((c : Int) != 0) = true := by rw [bne_iff_ne]; omega
          have hgei : ¬ (i : Int) < (ys.length : Int) := by omega
          clear hSl' hSd' hinv hown hbw hful hstop
          go_wp2
          refine bodyPost_ret (results_none rfl _ _ _) rfl ?_
          exact ⟨rfl, HP.out⟩
      · have rr := long_range hSd' (k := j + i) (by omega)
        obtain ⟨r, hr⟩ : ∃ r : Nat, S'.getD (j + i) 0 = r := ⟨(S'.getD (j + i) 0).toNat, by omega⟩
        have hcr := own_cell hown (j := j + i) (by omega)
        rw [hr] at hcr rr
        have hfz := hown.frozenAt (j + i)
        have hfi : ¬ ((N - j : Nat) : Int) ≤ (i : Int) := by omega
        have hful2 : i < N - j := by omega
        by_cases hlt2 : i < ys.length
        · obtain ⟨ad, rfl, hab, hca⟩ := (HV.out.grown hbw) (by omega)
          have hcelly := hca i hlt2
          have ry := long_range HD'.out (k := i) hlt2
          obtain ⟨y, hy⟩ : ∃ y : Nat, ys.getD i 0 = y := ⟨(ys.getD i 0).toNat, by omega⟩
          rw [hy] at hcelly ry
          obtain ⟨t, e3⟩ : ∃ t, (r + y + c) % 18446744073709551616 = t := ⟨_, rfl⟩
          obtain ⟨c', e4⟩ : ∃ c', (r + y + c) / 18446744073709551616 = c' := ⟨_, rfl⟩
          have hrun : ∀ W : World, (callFunc 61 #[.int .u64 (r : Int), .int .u64 (y : Int), .int .u64 (c : Int)]).run Try.prog W = .ok (.value (.tuple #[.int .u64 (t : Int), .int .u64 (c' : Int)])) W := fun W => by
            rw [← e3, ← e4]; exact add64_run r y c hc W
          have ht : t ≤ 18446744073709551615 := by omega
          have hc' : c' ≤ 1 := by omega
          have hdig : t + 18446744073709551616 * c' = r + y + c := by omega
          have HO2 := Lib.hid (own_set hown (j + i) (t : Int))
          have HB2 := Lib.hid (grown_set hbw (j + i) (.int .u64 (t : Int)))
          have HSL2 : Hid ((S'.set (j + i) (t : Int)).length = N) := Lib.hid (by simpa using hSl')
          have HSD2 := Lib.hid (hSd'.set_ (v := (t : Int)) (by omega) (by omega) (j + i))
          have HINV2 : Hid (wv (S'.set (j + i) (t : Int)) + 18446744073709551616 ^ (j + (i + 1)) * c' = wv S + 18446744073709551616 ^ j * val 18446744073709551616 (ys.take (i + 1))) := Lib.hid (by
              have h1 := val_set (b := 18446744073709551616) (S := S') (k := j + i) (by omega) (t : Int)
              rw [hr, Int.toNat_natCast, Int.toNat_natCast] at h1
              rw [val_take_step, hy, Int.toNat_natCast, show j + (i + 1) = (j + i) + 1 by omega, Nat.pow_succ 18446744073709551616 (j + i)]
              exact back_step h1 hinv hdig (Nat.pow_add _ _ _))
          have hq1 : i ≤ N := by omega
          clear hy hr hown hbw hinv hSl' hSd' e3 e4 hdig hca hful hstop
          go_wp2
          go_roundw
          case rel => exact ⟨i + 1, c', _, by omega, by go_num, rfl, hc', HSL2.out, HSD2.out, HINV2.out, HO2.out, HB2.out⟩
          case measure => simp [intOf] <;> omega
        · have hcb1 : ((c : Int) == 0) = false := by rw [beq_eq_false_iff_ne]; omega
          have hcb2 : ((c : Int) != 0) = true := by rw [bne_iff_ne]; omega
          have hgei : ¬ (i : Int) < (ys.length : Int) := by omega
          have hy : ys.getD i 0 = ((0 : Nat) : Int) := getD_out (by omega)
          obtain ⟨t, e3⟩ : ∃ t, (r + (0 : Nat) + c) % 18446744073709551616 = t := ⟨_, rfl⟩
          obtain ⟨c', e4⟩ : ∃ c', (r + (0 : Nat) + c) / 18446744073709551616 = c' := ⟨_, rfl⟩
          have hrun : ∀ W : World, (callFunc 61 #[.int .u64 (r : Int), .int .u64 ((0 : Nat) : Int), .int .u64 (c : Int)]).run Try.prog W = .ok (.value (.tuple #[.int .u64 (t : Int), .int .u64 (c' : Int)])) W := fun W => by
            rw [← e3, ← e4]; exact add64_run r (0 : Nat) c hc W
          have ht : t ≤ 18446744073709551615 := by omega
          have hc' : c' ≤ 1 := by omega
          have hdig : t + 18446744073709551616 * c' = r + (0 : Nat) + c := by omega
          have HO2 := Lib.hid (own_set hown (j + i) (t : Int))
          have HB2 := Lib.hid (grown_set hbw (j + i) (.int .u64 (t : Int)))
          have HSL2 : Hid ((S'.set (j + i) (t : Int)).length = N) := Lib.hid (by simpa using hSl')
          have HSD2 := Lib.hid (hSd'.set_ (v := (t : Int)) (by omega) (by omega) (j + i))
          have HINV2 : Hid (wv (S'.set (j + i) (t : Int)) + 18446744073709551616 ^ (j + (i + 1)) * c' = wv S + 18446744073709551616 ^ j * val 18446744073709551616 (ys.take (i + 1))) := Lib.hid (by
              have h1 := val_set (b := 18446744073709551616) (S := S') (k := j + i) (by omega) (t : Int)
              rw [hr, Int.toNat_natCast, Int.toNat_natCast] at h1
              rw [val_take_step, hy, Int.toNat_natCast, show j + (i + 1) = (j + i) + 1 by omega, Nat.pow_succ 18446744073709551616 (j + i)]
              exact back_step h1 hinv hdig (Nat.pow_add _ _ _))
          have hrun0 : ∀ W : World, (callFunc 61 #[.int .u64 (r : Int), .int .u64 0, .int .u64 (c : Int)]).run Try.prog W = .ok (.value (.tuple #[.int .u64 (t : Int), .int .u64 (c' : Int)])) W := hrun
          clear hy hr hown hbw hinv hSl' hSd' e3 e4 hdig hful hstop hrun
          go_wp2
          go_roundw
          case rel => exact ⟨i + 1, c', _, by omega, by go_num, rfl, hc', HSL2.out, HSD2.out, HINV2.out, HO2.out, HB2.out⟩
          case measure => simp [intOf] <;> omega
theorem addInto_any (base g : Nat) (V : Option Addr) (S ys : List Int) (j ca N cb : Nat) (w : World) (hown : w.ownsRow base 36 1 (.slice (some ⟨g, 0, none⟩) N N) N (S.map (Value.int .u64))) (hV : KL .u64 w base V ys) (hd : W64 S) (hd' : W64 ys) (hSl : S.length = N) (hNl : N ≤ 1099511627776) (hyl : ys.length ≤ 1099511627776) (hj : j ≤ N) (hlt : wv S + 18446744073709551616 ^ j * wv ys < 18446744073709551616 ^ N) :
    Calls Try.prog 57 #[.slice (some ⟨g, j, none⟩) (N - j : Nat) ca, .slice V ys.length cb] w fun e w' => e = .returned (.tuple #[]) ∧ Put base g N (wv S + 18446744073709551616 ^ j * wv ys) w w' :=
  addInto_free base g V S ys j ca N cb w hown (hV.kn (hown.lt g rfl).1 (Nat.le_trans (hown.lt g rfl).1 (Nat.le_of_lt (hown.lt g rfl).2))) hd hd' hSl hNl hyl hj hlt

set_option maxHeartbeats 4000000 in
theorem subFrom_any (base g : Nat) (V : Option Addr) (S ys : List Int) (N cb : Nat) (w : World) (hown : w.ownsRow base 36 1 (.slice (some ⟨g, 0, none⟩) N N) N (S.map (Value.int .u64))) (hV : KL .u64 w base V ys) (hd : W64 S) (hd' : W64 ys) (hSl : S.length = N) (hNl : N ≤ 1099511627776) (hyl : ys.length ≤ 1099511627776) (hle : wv ys ≤ wv S) :
    Calls Try.prog 64 #[.slice (some ⟨g, 0, none⟩) N N, .slice V ys.length cb] w fun e w' => e = .returned (.tuple #[]) ∧ Put base g N (wv S - wv ys) w w' := by
  have hbg := (hown.lt g rfl).1
  have HBZ : Hid (base ≤ w.heap.size) := Lib.hid (Nat.le_trans hbg (Nat.le_of_lt (hown.lt g rfl).2))
  have HO := Lib.hid hown
  have HV := Lib.hid hV
  have HD := Lib.hid hd
  have HD' := Lib.hid hd'
  have HSL := Lib.hid hSl
  have HL := Lib.hid hle
  clear hown hV hd hd' hSl hle
  go_enter Try.func64, Try.ntmps64
  go_wp2
  go_loopw [4, 5] (fun cv iv wr => ∃ (i c : Nat) (S' : List Int), i ≤ N ∧ iv = .int .i64 i ∧ cv = .int .u64 c ∧ c ≤ 1 ∧ S'.length = N ∧ W64 S' ∧ wv S' + val 18446744073709551616 (ys.take i) = wv S + 18446744073709551616 ^ i * c ∧
      wr.ownsRow base 36 1 (.slice (some ⟨g, 0, none⟩) N N) N (S'.map (Value.int .u64)) ∧ w.grownBy wr (some g)) (fun _ iv _ => N - (intOf iv).toNat)
  case atStart => exact ⟨0, 0, S, Nat.zero_le _, rfl, rfl, by omega, HSL.out, HD.out, by simp [val], HO.out, World.grownBy.refl _ _⟩
  case round =>
    obtain ⟨i, c, S', hi, rfl, rfl, hc, hSl', hSd', hinv, hown, hbw⟩ := hrel
    obtain ⟨wo, rfl⟩ : ∃ wo : World, wo = wr := ⟨_, rfl⟩
    by_cases hstop : ys.length ≤ i ∧ c = 0
    · obtain ⟨hge, rfl⟩ := hstop
      have HR : Hid (wv S' = wv S - wv ys) := Lib.hid (by have hle := HL.out; exact (by rw [List.take_of_length_le hge, Nat.mul_zero, Nat.add_zero] at hinv; have h : wv S' + wv ys = wv S := hinv; omega))
      have HP : Hid (Put base g N (wv S - wv ys) w wo) := Lib.hid ⟨S', hSl', hSd', HR.out, hown, hbw⟩
      have hgei : ¬ (i : Int) < (ys.length : Int) := by omega
      clear hSl' hSd' hinv hown hbw
      go_wp2
      go_end0
      exact ⟨rfl, HP.out⟩
    · by_cases hful : N ≤ i
      · have HR : Hid (wv S' = wv S - wv ys) := Lib.hid (by
          have hle := HL.out
          exact (by
          have h1 : wv S' < 18446744073709551616 ^ N := by rw [← hSl']; exact val_lt hSd'
          have h2 : wv S < 18446744073709551616 ^ N := by rw [← HSL.out]; exact val_lt HD.out
          have h3 : val 18446744073709551616 (ys.take i) = wv ys := take_more (Nat.lt_of_le_of_lt hle (by rw [show i = N by omega]; exact h2))
          rw [h3, show i = N by omega] at hinv
          have h4 : c = 0 := by
            rcases Nat.eq_zero_or_pos c with h0 | h0
            · exact h0
            · have : 18446744073709551616 ^ N * 1 ≤ 18446744073709551616 ^ N * c := Nat.mul_le_mul_left _ h0
              omega
          rw [h4, Nat.mul_zero, Nat.add_zero] at hinv
          omega))
        have HP : Hid (Put base g N (wv S - wv ys) w wo) := Lib.hid ⟨S', hSl', hSd', HR.out, hown, hbw⟩
        have hfi : (N : Int) ≤ (i : Int) := by omega
        by_cases hlt2 : i < ys.length
        · clear hSl' hSd' hinv hown hbw hful hstop
          go_wp2
          refine bodyPost_ret (results_none rfl _ _ _) rfl ?_
          exact ⟨rfl, HP.out⟩
        · have hcb1 : ((c : Int) == 0) = false := by rw [beq_eq_false_iff_ne]; omega
          have hcb2 : ((c : Int) != 0) = true := by rw [bne_iff_ne]; omega
          have hgei : ¬ (i : Int) < (ys.length : Int) := by omega
          clear hSl' hSd' hinv hown hbw hful hstop
          go_wp2
          refine bodyPost_ret (results_none rfl _ _ _) rfl ?_
          exact ⟨rfl, HP.out⟩
      · have rr := long_range hSd' (k := i) (by omega)
        obtain ⟨r, hr⟩ : ∃ r : Nat, S'.getD (i) 0 = r := ⟨(S'.getD (i) 0).toNat, by omega⟩
        have hcr := own_cell hown (j := i) (by omega)
        rw [hr] at hcr rr
        have hfz := hown.frozenAt (i)
        have hfi : ¬ (N : Int) ≤ (i : Int) := by omega
        have hful2 : i < N := by omega
        by_cases hlt2 : i < ys.length
        · obtain ⟨ad, rfl, hab, hca⟩ := (HV.out.grown hbw hbg HBZ.out) (by omega)
          have hcelly := hca i hlt2
          have ry := long_range HD'.out (k := i) hlt2
          obtain ⟨y, hy⟩ : ∃ y : Nat, ys.getD i 0 = y := ⟨(ys.getD i 0).toNat, by omega⟩
          rw [hy] at hcelly ry
          obtain ⟨t, e3⟩ : ∃ t, (r + 18446744073709551616 - y - c) % 18446744073709551616 = t := ⟨_, rfl⟩
          obtain ⟨c', e4⟩ : ∃ c' : Nat, (if r < y + c then 1 else 0) = c' := ⟨_, rfl⟩
          have hrun : ∀ W : World, (callFunc 62 #[.int .u64 (r : Int), .int .u64 (y : Int), .int .u64 (c : Int)]).run Try.prog W = .ok (.value (.tuple #[.int .u64 (t : Int), .int .u64 (c' : Int)])) W := fun W => by
            rw [← e3, ← e4]; exact sub64_run r y c hc W
          have ht : t ≤ 18446744073709551615 := by omega
          have hc' : c' ≤ 1 := by rw [← e4]; split <;> omega
          have hdig : t + y + c = r + 18446744073709551616 * c' := by rw [← e4]; split <;> omega
          have HO2 := Lib.hid (own_set hown (i) (t : Int))
          have HB2 := Lib.hid (grown_set hbw (i) (.int .u64 (t : Int)))
          have HSL2 : Hid ((S'.set (i) (t : Int)).length = N) := Lib.hid (by simpa using hSl')
          have HSD2 := Lib.hid (hSd'.set_ (v := (t : Int)) (by omega) (by omega) (i))
          have HINV2 : Hid (wv (S'.set i (t : Int)) + val 18446744073709551616 (ys.take (i + 1)) = wv S + 18446744073709551616 ^ (i + 1) * c') := Lib.hid (by
              have h1 := val_set (b := 18446744073709551616) (S := S') (k := i) (by omega) (t : Int)
              rw [hr, Int.toNat_natCast, Int.toNat_natCast] at h1
              rw [val_take_step, hy, Int.toNat_natCast, Nat.pow_succ 18446744073709551616 i]
              exact from_step h1 hinv hdig rfl)
          have hq1 : i ≤ N := by omega
          clear hy hr hown hbw hinv hSl' hSd' e3 e4 hdig hca hful hstop
          go_wp2
          go_roundw
          case rel => exact ⟨i + 1, c', _, by omega, by go_num, rfl, hc', HSL2.out, HSD2.out, HINV2.out, HO2.out, HB2.out⟩
          case measure => simp [intOf] <;> omega
        · have hcb1 : ((c : Int) == 0) = false := by rw [beq_eq_false_iff_ne]; omega
          have hcb2 : ((c : Int) != 0) = true := by rw [bne_iff_ne]; omega
          have hgei : ¬ (i : Int) < (ys.length : Int) := by omega
          have hy : ys.getD i 0 = ((0 : Nat) : Int) := getD_out (by omega)
          obtain ⟨t, e3⟩ : ∃ t, (r + 18446744073709551616 - (0 : Nat) - c) % 18446744073709551616 = t := ⟨_, rfl⟩
          obtain ⟨c', e4⟩ : ∃ c' : Nat, (if r < (0 : Nat) + c then 1 else 0) = c' := ⟨_, rfl⟩
          have hrun : ∀ W : World, (callFunc 62 #[.int .u64 (r : Int), .int .u64 ((0 : Nat) : Int), .int .u64 (c : Int)]).run Try.prog W = .ok (.value (.tuple #[.int .u64 (t : Int), .int .u64 (c' : Int)])) W := fun W => by
            rw [← e3, ← e4]; exact sub64_run r (0 : Nat) c hc W
          have ht : t ≤ 18446744073709551615 := by omega
          have hc' : c' ≤ 1 := by rw [← e4]; split <;> omega
          have hdig : t + (0 : Nat) + c = r + 18446744073709551616 * c' := by rw [← e4]; split <;> omega
          have HO2 := Lib.hid (own_set hown (i) (t : Int))
          have HB2 := Lib.hid (grown_set hbw (i) (.int .u64 (t : Int)))
          have HSL2 : Hid ((S'.set (i) (t : Int)).length = N) := Lib.hid (by simpa using hSl')
          have HSD2 := Lib.hid (hSd'.set_ (v := (t : Int)) (by omega) (by omega) (i))
          have HINV2 : Hid (wv (S'.set i (t : Int)) + val 18446744073709551616 (ys.take (i + 1)) = wv S + 18446744073709551616 ^ (i + 1) * c') := Lib.hid (by
              have h1 := val_set (b := 18446744073709551616) (S := S') (k := i) (by omega) (t : Int)
              rw [hr, Int.toNat_natCast, Int.toNat_natCast] at h1
              rw [val_take_step, hy, Int.toNat_natCast, Nat.pow_succ 18446744073709551616 i]
              exact from_step h1 hinv hdig rfl)
          have hrun0 : ∀ W : World, (callFunc 62 #[.int .u64 (r : Int), .int .u64 0, .int .u64 (c : Int)]).run Try.prog W = .ok (.value (.tuple #[.int .u64 (t : Int), .int .u64 (c' : Int)])) W := hrun
          clear hy hr hown hbw hinv hSl' hSd' e3 e4 hdig hful hstop hrun
          go_wp2
          go_roundw
          case rel => exact ⟨i + 1, c', _, by omega, by go_num, rfl, hc', HSL2.out, HSD2.out, HINV2.out, HO2.out, HB2.out⟩
          case measure => simp [intOf] <;> omega
end Go.Proofs.Ytdflhidhnejbbaa
