/- Contracts: divWords, of words more than one. -/
import Derived.Test.YtdflhidhnejbbaaDivG
namespace Go.Proofs.Ytdflhidhnejbbaa
open Go.RowKit

theorem ret_slices {A B : Option Addr} {a b c d a' b' : Nat} (h : a = a') (h' : b = b') : Ending.returned (.tuple #[.slice A a c, .slice B b d]) = .returned (.tuple #[.slice A a' c, .slice B b' d]) := by rw [h, h']
theorem top_ne_zero {b : Nat} {xs : List Int} {m : Nat} (hd : Dig b xs) (hl : xs.length = m + 1) (h : b ^ m ≤ val b xs) : xs.getD m 0 ≠ 0 := fun e => by
  have h1 := top_low (b := b) (x := 0) hl e
  have h2 := val_lt (hd.take_ m)
  rw [List.length_take, Nat.min_eq_left (by omega)] at h2
  omega
theorem take_small {b : Nat} {xs : List Int} {m : Nat} (hm : m ≤ xs.length) (h : val b xs < b ^ m) : val b (xs.take m) = val b xs := by
  have h1 := val_take_drop (b := b) (xs := xs) m hm
  rw [above_zero hm h, Nat.mul_zero, Nat.add_zero] at h1
  exact h1.symm
theorem long_start {X V B R a b L M : Nat} (hX : X = a * R) (hV : V = b * R) (ha : a < B ^ L) (hb : B ^ M ≤ b) (hR : 0 < R) (hLM : M + 1 ≤ L) : X < V * B ^ (L - (M + 1) + 1) := by
  have h1 : a * R < B ^ L * R := Nat.mul_lt_mul_of_pos_right ha hR
  have h2 : B ^ L = B ^ M * B ^ (L - (M + 1) + 1) := by rw [← Nat.pow_add]; congr 1; omega
  have h3 : B ^ M * B ^ (L - (M + 1) + 1) * R ≤ b * R * B ^ (L - (M + 1) + 1) := by
    rw [Nat.mul_right_comm b R, Nat.mul_assoc, Nat.mul_comm _ R, ← Nat.mul_assoc, Nat.mul_right_comm]
    exact Nat.mul_le_mul_right _ (Nat.mul_le_mul_right _ hb)
  rw [hX, hV]
  rw [h2] at h1
  omega
theorem long_step {Q V X S P D Q' S' : Nat} (h : Q * V + S = X) (hD : S / (V * P) = D) (hS : S % (V * P) = S') (hQ : Q' = Q + P * D) : Q' * V + S' = X := by
  have h1 := Nat.div_add_mod S (V * P)
  rw [hD, hS] at h1
  rw [hQ, Nat.add_mul, ← h]
  have h2 : P * D * V = V * P * D := by rw [Nat.mul_comm (P * D) V, Nat.mul_assoc]
  omega
theorem long_end {Q V X S a b R : Nat} (h : Q * V + S = X) (hS : S < V) (hX : X = a * R) (hV : V = b * R) (hR : 0 < R) : Q = a / b ∧ S / R = a % b := by
  have h1 : X / V = Q ∧ X % V = S := by
    rw [← h]
    refine ⟨?_, ?_⟩
    · rw [Nat.add_comm, Nat.add_mul_div_right _ _ (by omega), Nat.div_eq_of_lt hS, Nat.zero_add]
    · rw [Nat.add_comm, Nat.add_mul_mod_self_right, Nat.mod_eq_of_lt hS]
  rw [hX, hV, Nat.mul_div_mul_right _ _ hR, Nat.mul_mod_mul_right] at h1
  exact ⟨h1.1.symm, by rw [← h1.2, Nat.mul_div_cancel _ hR]⟩

set_option maxHeartbeats 4000000 in
theorem divWords_more (A B : Option Addr) (xs ys : List Int) (c d L M : Nat) (w : World) (h : KL .u64 w w.heap.size A xs) (h' : KL .u64 w w.heap.size B ys) (hd : W64 xs) (hd' : W64 ys) (hxl : xs.length = L) (hyl : ys.length = M + 1) (hL : L ≤ 549755813888) (hM : 1 ≤ M) (hML : M + 1 ≤ L) (htop : ys.getD M 0 ≠ 0) :
    Calls Try.prog 42 #[.slice A L c, .slice B (M + 1 : Nat) d] w fun e w' => MadeWW (wv xs / wv ys) (wv xs % wv ys) w e w' := by
  obtain ⟨i0, hi0, hz0, hz1, hz2⟩ := info_parts u64_info
  have ry := long_range hd' (k := M) (by omega)
  obtain ⟨y, hy⟩ : ∃ y : Nat, ys.getD M 0 = y := ⟨(ys.getD M 0).toNat, by omega⟩
  rw [hy] at ry htop
  have hy0 : 0 < y := by omega
  obtain ⟨bd, rfl, hbb, hbc⟩ := h' (by omega)
  have hcy := hbc M (by omega)
  rw [hy] at hcy
  obtain ⟨b, hb⟩ : ∃ b, Lib.bitLen y = b := ⟨_, rfl⟩
  have hb1 : y < 2 ^ b := by rw [← hb]; exact bitLenAux_lt 64 y (by omega)
  have hb64 : b ≤ 64 := by rw [← hb]; exact bitLenAux_le 64 y 64 (by omega)
  have hb0 : 1 ≤ b := by
    rcases Nat.eq_zero_or_pos b with h | h
    · rw [h] at hb1; omega
    · exact h
  obtain ⟨s, hs⟩ : ∃ s, b + s = 64 := ⟨64 - b, by omega⟩
  have HLZ : Hid (∀ W : World, Calls Try.prog 51 #[.int .u64 (y : Int)] W fun e w' => e = .returned (.int .i64 (s : Int)) ∧ W = w') :=
    Lib.hid fun W => (Try.bits_LeadingZeros64 y W (by omega) (by omega)).mono fun _ _ h => ⟨by rw [h.1, Int.toNat_natCast, hb]; exact ret_int (by omega), h.2.symm⟩
  have e64 : 2 ^ b * 2 ^ s = 18446744073709551616 := by rw [← Nat.pow_add, hs]
  have hy1 : (y + 1) * 2 ^ s ≤ 18446744073709551616 := by rw [← e64]; exact Nat.mul_le_mul_right _ hb1
  have hR : 0 < 2 ^ s := Nat.pow_pos (by omega)
  -- the numbers
  obtain ⟨a0, ha0⟩ : ∃ a0, wv xs = a0 := ⟨_, rfl⟩
  obtain ⟨b0, hb0'⟩ : ∃ b0, wv ys = b0 := ⟨_, rfl⟩
  have hbM : b0 < 18446744073709551616 ^ M * (y + 1) := by
    have h1 := top_low (b := 18446744073709551616) hyl hy
    have h2 := val_lt (hd'.take_ M)
    rw [List.length_take, Nat.min_eq_left (by omega)] at h2
    rw [← hb0', show wv ys = _ from h1, Nat.mul_add, Nat.mul_one]
    omega
  have hbM2 : 18446744073709551616 ^ M ≤ b0 := by
    have h1 := top_low (b := 18446744073709551616) hyl hy
    have h2 : 18446744073709551616 ^ M * 1 ≤ 18446744073709551616 ^ M * y := Nat.mul_le_mul_left _ hy0
    rw [← hb0', show wv ys = _ from h1]
    omega
  have haL : a0 < 18446744073709551616 ^ L := by rw [← ha0, ← hxl]; exact val_lt hd
  have hVM : b0 * 2 ^ s < 18446744073709551616 ^ (M + 1) := by
    have h1 : b0 * 2 ^ s < 18446744073709551616 ^ M * (y + 1) * 2 ^ s := Nat.mul_lt_mul_of_pos_right hbM hR
    have h2 : 18446744073709551616 ^ M * ((y + 1) * 2 ^ s) ≤ 18446744073709551616 ^ M * 18446744073709551616 := Nat.mul_le_mul_left _ hy1
    rw [Nat.pow_succ]
    rw [Nat.mul_assoc] at h1
    omega
  have hVM2 : 18446744073709551616 ^ M ≤ b0 * 2 ^ s := Nat.le_trans hbM2 (Nat.le_mul_of_pos_right _ hR)
  rw [ha0, hb0']
  have HU1 : Hid (∀ W : World, Below w.heap.size w W → Calls Try.prog 52 #[.slice (some bd) (M + 1 : Nat) d, .int .u64 (s : Int)] W fun e w' => MadeW (M + 2) (b0 * 2 ^ s) W e w') :=
    Lib.hid fun W hb => by
      have := shiftUp_any (some bd) ys d s W (h'.up hb) hd' (by omega) (by omega)
      rw [hyl, hb0'] at this
      exact this
  have HU2 : Hid (∀ W : World, Below w.heap.size w W → Calls Try.prog 52 #[.slice A L c, .int .u64 (s : Int)] W fun e w' => MadeW (L + 1) (a0 * 2 ^ s) W e w') :=
    Lib.hid fun W hb => by
      have := shiftUp_any A xs c s W (h.up hb) hd (by omega) (by omega)
      rw [hxl, ha0] at this
      exact this
  obtain ⟨V, hV⟩ : ∃ V, b0 * 2 ^ s = V := ⟨_, rfl⟩
  obtain ⟨X, hX⟩ : ∃ X, a0 * 2 ^ s = X := ⟨_, rfl⟩
  obtain ⟨N, hN⟩ : ∃ N, L - (M + 1) + 1 = N := ⟨_, rfl⟩
  have hXV : X < V * 18446744073709551616 ^ N := by rw [← hN]; exact long_start hX.symm hV.symm haL hbM2 hR hML
  have hb1e : (((M + 1 : Nat) : Int) == 1) = false := by rw [beq_eq_false_iff_ne]; omega
  have hNi : (L : Int) - ((M : Int) + 1) + 1 = (N : Int) := by omega
  have hs63 : s ≤ 63 := by omega
  have hsw : IntKind.u64.wrap (s : Int) = (s : Int) := by rw [IntKind.wrap_u64]; omega
  rw [hV] at HU1 hVM hVM2
  rw [hX] at HU2
  have HXV := Lib.hid hXV
  have HV := Lib.hid (And.intro hVM hVM2)
  have HX := Lib.hid (And.intro hX hV)
  have HN := Lib.hid hN
  have HR := Lib.hid hR
  have hNl : N ≤ 549755813889 := by omega
  clear h h' hd hd' hxl hyl hb hb1 hb64 hb0 hs e64 hy1 hR ha0 hb0' hbM hbM2 haL hVM hVM2 hV hX hXV hN htop hbc hy
  go_enter Try.func42, Try.ntmps42
  go_wp2_with (first
    | (go_at_call 51; (with_reducible refine (HLZ.out _).mono ?_); rintro e w' ⟨rfl, rfl⟩)
    | (go_at_call 52; (with_reducible refine (HU1.out _ (Below.refl _ _)).mono ?_); rintro e w1 ⟨gv, vs, hvl, hvd, hvv, rfl, hvo, hb⟩; have HB1 := Lib.hid hb; have HVL := Lib.hid hvl; have HVD := Lib.hid hvd; have HVV := Lib.hid hvv; have HVO := Lib.hid (KL.of_own hvo).2.2; clear hb hvl hvd hvv hvo)
    | (go_at_call 52; (with_reducible refine (HU2.out _ HB1.out).mono ?_); rintro e w2 ⟨gu, us, hul, hud, huv, rfl, huo, hb⟩; have HB2 := Lib.hid (below_chain HB1.out hb); have HUL := Lib.hid hul; have HUD := Lib.hid hud; have HUV := Lib.hid huv; have HUO := Lib.hid huo; have HVO2 := Lib.hid (HVO.out.below hb); have HSZ := Lib.hid hb.size; clear hb hul hud huv huo)
    | (at_make; refine wpList_make_full _ rfl _ _ 47 rfl w2.heap.size 36 i0 (.int .u64 0) 1 Try.underlying47 hi0 hz0 hz1 _ _ _ _ N rfl rfl (by simp [hNi]) (by simp [hNi]) (by rw [hz2]; omega) (by unfold maxLen; omega) (Nat.le_refl _) ?_; intro w3 hown hg; have HQO := Lib.hid (own_zeros hown); have HB3 := Lib.hid ((HB2.out).grown hg HB2.out.size (fun k hk => by cases hk)); have HUO3 := Lib.hid (HUO.out.kept hg (.inr (by simp [Value.ownBlock]))); have HVO3 := Lib.hid (HVO2.out.keep (w' := w3) (fun p hp => hg.cell_far p (Nat.lt_of_lt_of_le hp HSZ.out) (by simp))); clear hown hg))
  have hgu := HUO.out.lt gu rfl
  have hgw : w.heap.size ≤ gu := Nat.le_trans HB1.out.size hgu.1
  have hgw2 : w.heap.size ≤ w2.heap.size := HB2.out.size
  have hvt := take_small (b := 18446744073709551616) (xs := vs) (m := M + 1) (by have := HVL.out; omega) (by rw [show val 18446744073709551616 vs = V from HVV.out]; exact HV.out.1)
  rw [show val 18446744073709551616 vs = V from HVV.out] at hvt
  have HVT : Hid (wv (vs.take (M + 1)) = V ∧ (vs.take (M + 1)).length = M + 1 ∧ W64 (vs.take (M + 1)) ∧ (vs.take (M + 1)).getD M 0 ≠ 0) := Lib.hid (by
    have hl : (vs.take (M + 1)).length = M + 1 := by rw [List.length_take]; have := HVL.out; omega
    have hdd : W64 (vs.take (M + 1)) := HVD.out.take_ _
    exact ⟨hvt, hl, hdd, top_ne_zero hdd hl (by rw [hvt]; exact HV.out.2)⟩)
  have HVO4 := Lib.hid (HVO3.out.head (n := M + 1) (by have := HVL.out; omega))
  obtain ⟨vt, hvte⟩ : ∃ vt, vs.take (M + 1) = vt := ⟨_, rfl⟩
  rw [hvte] at HVT HVO4
  have hV0 : 0 < V := by have := HV.out.2; have := Nat.pow_pos (n := M) (show 0 < 18446744073709551616 by omega); omega
  clear hvt hvte
  go_loopg [11] N (fun gk jv wr => ∃ (k : Nat) (S Q : List Int), k ≤ N ∧ jv = .int .i64 ((k : Int) - 1) ∧ S.length = L + 1 ∧ W64 S ∧ Q.length = N ∧ W64 Q ∧ (∀ i, i < k → Q.getD i 0 = 0) ∧ wv Q * V + wv S = X ∧ wv S < V * 18446744073709551616 ^ k ∧
      wr.ownsRow w1.heap.size 36 1 (.slice (some ⟨gu, 0, none⟩) (L + 1) (L + 1)) (L + 1) (S.map (Value.int .u64)) ∧ wr.ownsRow w2.heap.size 36 1 (.slice (some ⟨w2.heap.size, 0, none⟩) N N) N (Q.map (Value.int .u64)) ∧ KL .u64 wr w1.heap.size (some ⟨gv, 0, none⟩) vt ∧ Below w.heap.size w wr ∧ k = gk)
  case atStart => exact ⟨N, us, _, Nat.le_refl _, rfl, HUL.out, HUD.out, by simp, Dig.zeros (by omega) _, fun i _ => getD_zeros _ _, by unfold wv; rw [val_zeros, Nat.zero_mul, Nat.zero_add]; exact HUV.out, by rw [HUV.out]; exact HXV.out, HUO3.out, HQO.out, HVO4.out, HB3.out, rfl⟩
  case round =>
    obtain ⟨k, S, Q, hk, rfl, hSl, hSd, hQl, hQd, hQz, hinv, hlt, huo, hqo, hvo, hbw, hkg⟩ := hrel
    by_cases hk0 : 0 < k
    · obtain ⟨j, rfl⟩ : ∃ j, k = j + 1 := ⟨k - 1, by omega⟩
      have hki : ((j + 1 : Nat) : Int) - 1 = (j : Int) := by omega
      rw [hki]
      have hjL : j + (M + 1) + 1 ≤ L + 1 := by have := HN.out; omega
      obtain ⟨D, hD⟩ : ∃ D, wv S / (V * 18446744073709551616 ^ j) = D := ⟨_, rfl⟩
      obtain ⟨T, hT⟩ : ∃ T, wv S % (V * 18446744073709551616 ^ j) = T := ⟨_, rfl⟩
      have HST : Hid (Calls Try.prog 53 #[.slice (some ⟨gu, j, none⟩) (j + (M + 1) + 1 - j : Nat) (L + 1 - j), .slice (some ⟨gv, 0, none⟩) (M + 1 : Nat) (M + 2)] wr fun e w' =>
          ∃ S' : List Int, e = .returned (.int .u64 (D : Int)) ∧ S'.length = L + 1 ∧ W64 S' ∧ wv S' = T ∧ w'.ownsRow w1.heap.size 36 1 (.slice (some ⟨gu, 0, none⟩) (L + 1) (L + 1)) (L + 1) (S'.map (Value.int .u64)) ∧ wr.grownBy w' (some gu)) := Lib.hid (by
        have h := divStep_any w1.heap.size gu (some ⟨gv, 0, none⟩) S vt j (M + 1) (L + 1 - j) (M + 2) (L + 1) wr huo hvo hSd HVT.out.2.2.1 hSl HVT.out.2.1 (by omega) hjL (by omega) (by rw [HVT.out.1]; exact hlt) HVT.out.2.2.2
        rw [HVT.out.1] at h
        rw [show j + (M + 1) + 1 - j = M + 1 + 1 by omega]
        exact h.mono fun e w' ⟨S', he, h1, h2, h3, h4, h5⟩ => ⟨S', by rw [he, hD], h1, h2, by rw [h3, hT], h4, h5⟩)
      have hw1 : w1.heap.size ≤ wr.heap.size := Nat.le_trans hgu.1 (Nat.le_of_lt (huo.lt gu rfl).2)
      have hDb : D ≤ 18446744073709551615 := by
        have h1 : D < 18446744073709551616 := by
          rw [← hD, Nat.div_lt_iff_lt_mul (Nat.mul_pos hV0 (Nat.pow_pos (by omega))), Nat.mul_comm, Nat.mul_assoc, ← Nat.pow_succ]
          exact hlt
        omega
      have HQO2 := Lib.hid hqo
      have HVO5 := Lib.hid hvo
      have HBW := Lib.hid hbw
      have HKG := Lib.hid hkg
      have HQL : Hid ((Q.set j (D : Int)).length = N) := Lib.hid (by simpa using hQl)
      have HQD := Lib.hid (hQd.set_ (v := (D : Int)) (by omega) (by omega) j)
      have HQZ : Hid (∀ i, i < j → (Q.set j (D : Int)).getD i 0 = 0) := Lib.hid fun i hi => by
        rw [getD_set _ (by omega), if_neg (by omega)]
        exact hQz i (by omega)
      have HINV : Hid (wv (Q.set j (D : Int)) * V + T = X) := Lib.hid (by
        have h1 := val_set (b := 18446744073709551616) (S := Q) (k := j) (by omega) (D : Int)
        rw [hQz j (by omega), Int.toNat_natCast, Int.toNat_zero, Nat.mul_zero, Nat.add_zero] at h1
        exact long_step hinv hD hT h1)
      have HLT : Hid (T < V * 18446744073709551616 ^ j) := Lib.hid (by
        rw [← hT]
        exact Nat.mod_lt _ (Nat.mul_pos hV0 (Nat.pow_pos (by omega))))
      have hcap : ¬ L + 1 = j := by omega
      have hcapi : ¬ (L : Int) + 1 = (j : Int) := by omega
      have hsz : wr.heap.size ≥ w.heap.size := hbw.size
      clear hSl hSd hQl hQd hQz hinv hlt huo hqo hvo hbw hkg hki hD hT
      go_wp2_with (go_at_call 53; (with_reducible refine HST.out.mono ?_); rintro e w4 ⟨S', rfl, hSl', hSd', hSv', huo', hg⟩; have hqo4 := HQO2.out.kept hg (.inr (by simp [Value.ownBlock]; omega)); have hcq4 := own_cell hqo4 (j := j) (by omega); obtain ⟨u, hu⟩ : ∃ u, Q.getD j 0 = u := ⟨_, rfl⟩; rw [hu] at hcq4; have hfz4 := hqo4.frozenAt j; have HQ4 := Lib.hid hqo4; have HU4 := Lib.hid huo'; have HG4 := Lib.hid hg; have HS4 := Lib.hid (And.intro hSl' (And.intro hSd' hSv')); clear hu hqo4 huo' hg hSl' hSd' hSv')
      go_roundg j
      case measure => have := HKG.out; omega
      case rel =>
        have hset : w4.grownBy (w4.setCell ⟨w2.heap.size, j, none⟩ (.int .u64 (D : Int))) (some w2.heap.size) := grown_set (World.grownBy.refl _ _) j _
        refine ⟨j, S', _, by omega, rfl, HS4.out.1, HS4.out.2.1, HQL.out, HQD.out, HQZ.out, by rw [HS4.out.2.2]; exact HINV.out, by rw [HS4.out.2.2]; exact HLT.out, HU4.out.kept hset (.inr (by simp [Value.ownBlock]; omega)), own_set HQ4.out j (D : Int), ?_, ?_, rfl⟩
        · exact (HVO5.out.grown HG4.out hgu.1 hw1).below ((Below.refl _ _).setCell (p := ⟨w2.heap.size, j, none⟩) HSZ.out _)
        · exact (HBW.out.grown HG4.out hsz (fun k hk => by injection hk with hk; omega)).setCell (p := ⟨w2.heap.size, j, none⟩) hgw2 _
    · obtain rfl : k = 0 := by omega
      rw [Nat.pow_zero, Nat.mul_one] at hlt
      obtain ⟨e1, e2⟩ := long_end hinv hlt HX.out.1.symm HX.out.2.symm HR.out
      have hSt : wv (S.take (M + 1)) = wv S := take_small (by omega) (Nat.lt_trans hlt HV.out.1)
      have hSl2 : (S.take (M + 1)).length = M + 1 := by rw [List.length_take]; omega
      have HSD : Hid (Calls Try.prog 54 #[.slice (some ⟨gu, 0, none⟩) (M + 1 : Nat) (L + 1), .int .u64 (s : Int)] wr fun e w' => MadeW (M + 1) (a0 % b0) wr e w') := Lib.hid (by
        have h := shiftDown_any (some ⟨gu, 0, none⟩) (S.take (M + 1)) (L + 1) s wr ((KL.of_own huo).2.2.head (by omega)) (hSd.take_ _) (by omega) hs63
        rw [hSl2, hSt, e2] at h
        exact h)
      have HE := Lib.hid e1
      have HQL := Lib.hid hQl
      have HQD := Lib.hid hQd
      have HQO2 := Lib.hid (KL.of_own hqo).2.2
      have HBW := Lib.hid hbw
      clear hSl hSd hQl hQd hQz hinv hlt huo hqo hvo hbw hkg e1 e2 hSt hSl2
      rw [show ((0 : Nat) : Int) - 1 = -1 by rfl]
      go_wp2_with (go_at_call 54; (with_reducible refine HSD.out.mono ?_); rintro e w4 ⟨gr, rs, hrl, hrd, hrv, rfl, hro, hb⟩)
      go_ret2
      refine ⟨_, _, Q, rs, N, M + 1, ret_slices HQL.out.symm hrl.symm, HQD.out, hrd, HE.out, hrv, HQO2.out.up hb, (KL.of_own hro).2.2, by have := HQL.out; omega, by omega, below_chain HBW.out hb⟩
end Go.Proofs.Ytdflhidhnejbbaa
