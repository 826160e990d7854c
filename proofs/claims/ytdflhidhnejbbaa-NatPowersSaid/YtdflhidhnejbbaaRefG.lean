/- Contracts of the reference: DivMod. -/
import Derived.Test.YtdflhidhnejbbaaRefF
import Derived.Deep.LoopGhost
namespace Go.Proofs.Ytdflhidhnejbbaa
open Go.RowKit

theorem own_below {w w' : World} {base : Nat} {e : TypeId} {size n : Nat} {v : Value} {xs : List Value} (h : w.ownsRow base e size v n xs) (hb : Below w.heap.size w w') : w'.ownsRow base e size v n xs := by
  refine ⟨h.1, ?_⟩
  rcases h.2 with h | ⟨g, cap, cur, h1, h2, h3, h4⟩
  · exact .inl h
  · exact .inr ⟨g, cap, cur, h1, h2, (hb.block g (Array.getElem?_eq_some_iff.1 h3).1).trans h3, h4⟩
theorem can_append {xs ys : List Int} (hy : Can ys) (hn : ys ≠ []) : Can (xs ++ ys) := fun k hk => by
  have hp := List.length_pos_iff.2 hn
  rw [List.length_append] at hk
  have h := hy (k - xs.length) (by omega)
  simpa [List.getD_eq_getElem?_getD, List.getElem?_append_right (show xs.length ≤ k by omega)] using h
theorem limbs_shift {g : Nat} (k : Nat) (hg : 1 ≤ g) : limbs (4294967296 ^ k * g) = List.replicate k 0 ++ limbs g := by
  have hne : limbs g ≠ [] := by
    intro e
    have := limbs_len_pos.2 hg
    rw [e] at this
    simp at this
  have hd : D32 (List.replicate k 0 ++ limbs g) := (Dig.zeros (by omega) k).append_ (limbs_dig g)
  have h := limbs_nv (can_append (limbs_can g) hne) hd
  rw [← h]
  congr 1
  unfold nv
  rw [val_append, val_zeros, List.length_replicate, Nat.zero_add]
  congr 1
  exact (nv_limbs g).symm
theorem limbs_drop (n k : Nat) : (limbs n).drop k = limbs (n / 4294967296 ^ k) := by
  rcases Nat.lt_or_ge k (limbs n).length with hlt | hge
  · have hc : Can ((limbs n).drop k) := fun j hj => by
      rw [List.length_drop] at hj
      have := limbs_can n (k + j) (by omega)
      simpa [List.getD_eq_getElem?_getD, List.getElem?_drop] using this
    have h := limbs_nv hc ((limbs_dig n).drop_ k)
    rw [← h]
    congr 1
    have h1 := val_take_drop (b := 4294967296) (xs := limbs n) k (by omega)
    have h2 := val_lt ((limbs_dig n).take_ k)
    rw [List.length_take, Nat.min_eq_left (by omega)] at h2
    rw [show val 4294967296 (limbs n) = n from nv_limbs n] at h1
    have key : ∀ (t e P : Nat), n = t + P * e → t < P → n / P = e := fun t e P h1 h2 => by
      rw [h1, Nat.add_mul_div_left _ _ (by omega), Nat.div_eq_of_lt h2, Nat.zero_add]
    exact (key _ _ _ h1 h2).symm
  · have h1 : n / 4294967296 ^ k = 0 := Nat.div_eq_of_lt (Nat.lt_of_lt_of_le (limbs_lt n) (Nat.pow_le_pow_right (by omega) hge))
    rw [h1, limbs_zero, List.drop_of_length_le hge]
theorem limbs_small {g : Nat} (hg : g ≤ 4294967295) : (limbs g).length ≤ 1 := limbs_len_le (k := 1) (by omega)

section
variable {P : Program} (w : World)
theorem step_append_KL {ops : Array Oper} {o : Oper} {a : Act} {K : Act → World → Prop} {Q : Exit → Act → World → Prop} {E : Prop} (hgd : o.guard = none) (s x : Operand) (t : TypeId)
    (ho : o.op = .call { callee := .builtin .append, args := #[s, x], argTypes := #[t, t] })
    (base : Nat) (e : TypeId) (i : TypeInfo) (bytes : Nat) (ht : P.underlying t = some (.slice e)) (hi : P.info? e = some i) (hz : i.zero = some (.int .u32 0)) (hsize : i.size = 1) (hby : i.bytes = bytes)
    (v : Value) (n : Nat) (xs : List Value) (hs : a.eval s = v) (hown : w.ownsRow base e 1 v n xs)
    (B : Nat) (A : Option Addr) (m c : Nat) (zs : List Int) (hm : zs.length = m) (hx : a.eval x = .slice A m c) (hr : KL .u32 w B A zs)
    (h63 : n + m ≤ maxLen) (hbytes : (n + m) * bytes ≤ 140737488355328) (hbase : base ≤ w.heap.size)
    (h : ∀ v' w', w'.ownsRow base e 1 v' (n + m) (xs ++ zs.map (Value.int .u32)) → w.grownBy w' v.ownBlock → K (a.put o.dst v') w') :
    if Region.wanted o (yielded ops a.tmps) = true then Oper.wp P o a w K Q else E := by
  have hw : Region.wanted o (yielded ops a.tmps) = true := by simp [Region.wanted, hgd]
  rw [if_pos hw]
  subst hm
  obtain ⟨v', w', hrun, h2, h3⟩ := run_append_KL (P := P) w base t o.type e i bytes ht hi hz hsize hby v n xs hown B A c zs hr h63 hbytes hbase
  unfold Oper.wp execOp
  simp only [ho, resolve, invoke, builtin, Sem.run_bind, Sem.run_pure, Result.andThen_ok, List.map_toArray, List.map_cons, List.map_nil, hs, hx, hrun]
  exact h v' w' h2 h3
end
/-- make, its length by a number of the walk: an equation at every world. -/
theorem run_make_limbs {P : Program} (t e : TypeId) (i : TypeInfo) (ht : P.underlying t = some (.slice e)) (hi : P.info? e = some i) (hz : i.zero = some (.int .u32 0)) (h1 : i.size = 1) (h8 : i.bytes = 4) (n : Nat) (hn : n ≤ 65536) (w : World) :
    (Instr.makeSlice t (.int .i64 (n : Int)) (.int .i64 (n : Int))).run P w = .ok (.slice (some ⟨w.heap.size, 0, none⟩) n n) (w.alloc (.cells (madeCells (Value.int .u32 0).cells (n * 1)) e)) := by
  have hr := run_make (P := P) w t e i (.int .u32 0) ht hi hz .i64 .i64 n n (by omega) (by omega) (by rw [h8]; omega) (by omega)
  simp only [Int.toNat_natCast, h1] at hr
  exact hr

/-- The rest of a division; nought by nought. -/
def remN (n m : Nat) : Nat := if m = 0 then 0 else n % m
theorem divmod_of {n m q r : Nat} (h : q * m + r = n) (hr : r < m) : q = n / m ∧ r = remN n m := by
  have hm : m ≠ 0 := by omega
  unfold remN
  rw [if_neg hm, ← h]
  refine ⟨?_, ?_⟩
  · rw [Nat.add_comm, Nat.add_mul_div_right _ _ (by omega), Nat.div_eq_of_lt hr, Nat.zero_add]
  · rw [Nat.add_comm, Nat.add_mul_mod_self_right, Nat.mod_eq_of_lt hr]
theorem divmod_round {n m q r x : Nat} (h : q * m + r = n) (hx : x * m ≤ r) : (q + x) * m + (r - x * m) = n := by rw [Nat.add_mul]; omega

set_option maxHeartbeats 2000000 in
theorem refdivmod_pos (n m : Nat) (A B : Option Addr) (c d : Nat) (w : World) (h : KL .u32 w w.heap.size A (limbs n)) (h' : KL .u32 w w.heap.size B (limbs m)) (hnl : (limbs n).length ≤ 500) (hml : (limbs m).length ≤ 500) (hcap : (limbs n).length ≤ c) (hm0 : 0 < m) :
    Calls Try.prog 21 #[.slice A (limbs n).length c, .slice B (limbs m).length d] w fun e w' => MadeQR (n / m) (remN n m) true w e w' := by
  obtain ⟨i0, hi0, hz0, hz1, hz2⟩ := info_parts u32_info
  have hmp := limbs_len_pos.2 hm0
  have hb1 : (((limbs m).length : Int) == 0) = false := by rw [beq_eq_false_iff_ne]; omega
  have HT : Hid (∀ W : World, Below w.heap.size w W → Calls Try.prog 40 #[.slice A (limbs n).length c] W fun e w' => MadeN n W e w') :=
    Lib.hid fun W hb => by
      have := reftrim_any A (limbs n) c W (h.up hb) (limbs_dig n) hcap (by omega)
      rwa [nv_limbs] at this
  have H' := Lib.hid h'
  have HNL := Lib.hid hnl
  clear h h' hcap hnl
  go_enter Try.func21, Try.ntmps21
  go_wp2_with (go_at_call 40; (with_reducible refine (HT.out _ (Below.refl _ _)).mono ?_); rintro e w1 ⟨A1, c1, rfl, hA, hc, hb⟩; have HA1 := Lib.hid hA; have HB1 := Lib.hid hb; clear hA hb)
  go_loopg [7, 8] n (fun gk qv rv wr => ∃ (q r : Nat) (Q R : Option Addr) (cq cr : Nat), qv = .slice Q (limbs q).length cq ∧ rv = .slice R (limbs r).length cr ∧ KL .u32 wr wr.heap.size Q (limbs q) ∧ KL .u32 wr wr.heap.size R (limbs r) ∧
      (limbs q).length ≤ cq ∧ (limbs r).length ≤ cr ∧ q * m + r = n ∧ r = gk ∧ Below w.heap.size w wr)
  case atStart => exact ⟨0, n, none, A1, 0, c1, by rw [limbs_zero]; rfl, rfl, by rw [limbs_zero]; exact KL.nil_, HA1.out, by rw [limbs_zero]; simp, by assumption, by omega, rfl, HB1.out⟩
  case round =>
    obtain ⟨q, r, Q, R, cq, cr, rfl, rfl, hQ, hR, hcq, hcr, hinv, hrg, hbw⟩ := hrel
    obtain ⟨z, hz⟩ : ∃ z, cmpN r m = z := ⟨_, rfl⟩
    have hrn : r ≤ n := by omega
    have hqn : q ≤ n := Nat.le_trans (Nat.le_mul_of_pos_right q hm0) (by omega)
    have hrl : (limbs r).length ≤ 500 := Nat.le_trans (lens_of_le hrn) HNL.out
    have hql : (limbs q).length ≤ 500 := Nat.le_trans (lens_of_le hqn) HNL.out
    have HC : Hid (Calls Try.prog 19 #[.slice R (limbs r).length cr, .slice B (limbs m).length d] wr fun e w' => e = .returned (.int .i64 z) ∧ Below wr.heap.size wr w') :=
      Lib.hid (by
        have := refcmp_lists R B (limbs r) (limbs m) cr d wr hR (H'.out.up hbw) (limbs_dig r) (limbs_dig m) (by omega) (by omega)
        rw [cmpV_limbs, hz] at this
        exact this.mono fun _ _ h => ⟨h.1, below_of_drewN (Below.refl _ _) h.2⟩)
    by_cases hle : m ≤ r
    · have hz0' : 0 ≤ z := by rw [← hz]; unfold cmpN; rw [if_neg (by omega)]; split <;> omega
      have HG : Hid (∀ W : World, Below wr.heap.size wr W → Calls Try.prog 45 #[.slice R (limbs r).length cr, .slice B (limbs m).length d] W fun e w' => Guessed r m (limbs r).length W e w') :=
        Lib.hid fun W hb => guess_any r m R B cr d W (hR.up hb) ((H'.out.up hbw).up hb) (by omega) hm0 hle
      have HQ := Lib.hid hQ
      have HR := Lib.hid hR
      have HB2 := Lib.hid ((H'.out.up hbw))
      have HBW := Lib.hid hbw
      have HINV := Lib.hid hinv
      have HRG := Lib.hid hrg
      clear hQ hR hbw hinv hz hrg hle
      go_wp2_with (first
        | (go_at_call 19; (with_reducible refine HC.out.mono ?_); rintro e w2 ⟨rfl, hb⟩; have HB3 := Lib.hid hb; clear hb)
        | (go_at_call 45; (with_reducible refine (HG.out _ HB3.out).mono ?_); rintro e w3 ⟨g, k, rfl, hg1, hg2, hk, hgm, hdr⟩; have HB4 := Lib.hid (below_chain HB3.out (below_of_drewN (Below.refl _ _) hdr)); have HGM := Lib.hid hgm; clear hgm hdr))
      have hmk := run_make_limbs (P := Try.prog) 22 41 i0 Try.underlying22 hi0 hz0 hz1 hz2 k (by omega)
      have hbw := Below.refl w3.heap.size w3
      have HOF : Hid (∀ W : World, Calls Try.prog 35 #[.int .u64 (g : Int)] W fun e w' => MadeN g W e w') := Lib.hid fun W => refof_any g (by omega) W
      have hgl := limbs_small hg2
      go_region_held3 (fun w' => Below w3.heap.size w3 w')
        (first
          | assumption
          | exact Below.drew (by assumption)
          | exact Below.alloc (by assumption) (by simp; done) _
          | exact Below.alloc (by assumption) (Below.size (by assumption)) _
          | exact below_chain (by assumption) hb4
          | exact Below.grown (by assumption) hgrow (Nat.le_trans ((Below.refl 0 w3).alloc (Nat.zero_le _) _).size hb4.size) (fun j hj => by simp [Value.ownBlock] at hj; omega)
          | exact Below.grown (by assumption) hgrow (Nat.le_trans hb4.size ((Below.refl 0 w4).alloc (Nat.zero_le _) _).size) (fun j hj => by (have hj' : w4.heap.size = j := by simpa [Value.ownBlock] using hj); exact hj' ▸ hb4.size))
        (first
          | (go_at_call 35; (with_reducible refine (HOF.out _).mono ?_); rintro e w4 ⟨A4, c4, rfl, hA4, hcap4, hb4⟩)
          | (have hs4 : (madeCells #[Value.int .u32 0] k).size = k * 1 := (by rw [size_madeCells, Nat.mul_one])
             have hm4 : k ≤ maxLen := (by unfold maxLen; omega)
             have hrow4 := own_below (w := (w3.alloc (.cells (madeCells #[Value.int .u32 0] k) 41)).drew) (w' := w4) (World.ownsRow_lit (base := w3.heap.size) (e := 41) (size := 1) w3 (madeCells #[Value.int .u32 0] k) k (Nat.le_refl _) hm4 hs4) hb4
             have hz4 : w3.heap.size ≤ w4.heap.size := Below.size (show Below w3.heap.size w3 w4 by assumption)
             have hy4 : k + (limbs g).length ≤ maxLen := (by unfold maxLen; omega)
             have hx4 : (k + (limbs g).length) * 4 ≤ 140737488355328 := (by omega)
             refine step_append_KL _ (by rfl) _ _ _ (by rfl) w3.heap.size 41 i0 4 Try.underlying22 hi0 hz0 hz1 hz2 _ k _ (by rfl) hrow4 w4.heap.size A4 (limbs g).length c4 (limbs g) rfl (by rfl) hA4 hy4 hx4 hz4 ?_
             intro v5 w5 hown hgrow)
          | (have hs4 : (madeCells #[Value.int .u32 0] k).size = k * 1 := (by rw [size_madeCells, Nat.mul_one])
             have hm4 : k ≤ maxLen := (by unfold maxLen; omega)
             have hz4 : w3.heap.size ≤ w4.heap.size := hb4.size
             have hrow4 := World.ownsRow_lit (base := w3.heap.size) (e := 41) (size := 1) w4 (madeCells #[Value.int .u32 0] k) k hz4 hm4 hs4
             have hy4 : k + (limbs g).length ≤ maxLen := (by unfold maxLen; omega)
             have hx4 : (k + (limbs g).length) * 4 ≤ 140737488355328 := (by omega)
             have hz5 : w3.heap.size ≤ (w4.alloc (.cells (madeCells #[Value.int .u32 0] k) 41)).heap.size := Nat.le_trans hz4 ((Below.refl 0 w4).alloc (Nat.zero_le _) _).size
             refine step_append_KL _ (by rfl) _ _ _ (by rfl) w3.heap.size 41 i0 4 Try.underlying22 hi0 hz0 hz1 hz2 _ k _ (by rfl) hrow4 _ A4 (limbs g).length c4 (limbs g) rfl (by rfl) (hA4.up ((Below.refl _ _).alloc (Nat.le_refl _) (.cells (madeCells #[Value.int .u32 0] k) 41))) hy4 hx4 hz5 ?_
             intro v5 w5 hown hgrow))
      all_goals
        rw [toList_madeCells_one, ← List.map_replicate, ← List.map_append, ← limbs_shift k hg1] at hown
        obtain ⟨A5, c5, hv5, hA5, hc5⟩ := made_of_row hown
        subst hv5
        have hb5 : Below w3.heap.size w3 w5 := by assumption
        obtain ⟨x, hx⟩ : ∃ x, 4294967296 ^ k * g = x := ⟨_, rfl⟩
        have hgm := HGM.out
        have hx1 : 1 ≤ x := by rw [← hx]; exact Nat.mul_pos (Nat.pow_pos (by omega)) (by omega)
        rw [hx] at hgm hA5 hc5 ⊢
        have hxm1 : x ≤ x * m := Nat.le_mul_of_pos_right x hm0
        have hxl : (limbs x).length ≤ 500 := Nat.le_trans (lens_of_le (Nat.le_trans hxm1 hgm)) hrl
        have hpl : (limbs (x * m)).length ≤ 500 := Nat.le_trans (lens_of_le hgm) hrl
        have hb05 := below_chain HB4.out hb5
        have HSUB : Hid (∀ (W : World) (A' : Option Addr) (c' : Nat), KL .u32 W W.heap.size R (limbs r) → KL .u32 W W.heap.size A' (limbs (x * m)) → Calls Try.prog 14 #[.slice R (limbs r).length cr, .slice A' (limbs (x * m)).length c'] W fun e w' => MadeNV (r - x * m) (.bool true) W e w') :=
          Lib.hid fun W A' c' h1 h2 => by
            have := refsub_any r (x * m) R A' cr c' W h1 h2 (by omega) (by omega)
            rwa [decide_eq_true hgm] at this
        have HQ5 := Lib.hid (HQ.out.up hb05)
        have HR5 := Lib.hid (HR.out.up hb05)
        have HM5 := Lib.hid (HB2.out.up hb05)
        have HX5 := Lib.hid hA5
        have HW5 := Lib.hid (below_chain HBW.out hb05)
        have HGM2 := Lib.hid hgm
        clear hown hA5 hb5 hb05 hx hgrow hb4 hA4 hgm hmk hbw hgl hxm1
        go_wp2_with (first
          | (go_at_call 17; (with_reducible refine (refadd_any q x Q A5 cq c5 _ HQ5.out HX5.out (by omega) (by omega)).mono ?_); rintro e w6 ⟨A6, c6, rfl, hA, hcap6, hb⟩; have HS6 := Lib.hid hA; have HR6 := Lib.hid (HR5.out.up hb); have HM6 := Lib.hid (HM5.out.up hb); have HX6 := Lib.hid (HX5.out.up hb); have HW6 := Lib.hid (below_chain HW5.out hb); clear hA hb)
          | (go_at_call 23; (with_reducible refine (refmul_any x m A5 B c5 d _ HX6.out HM6.out (by omega) (by omega)).mono ?_); rintro e w7 ⟨A7, c7, rfl, hA, hcap7, hb⟩; have HP7 := Lib.hid hA; have HR7 := Lib.hid (HR6.out.up hb); have HS7 := Lib.hid (HS6.out.up hb); have HW7 := Lib.hid (below_chain HW6.out hb); clear hA hb)
          | (go_at_call 14; (with_reducible refine (HSUB.out _ _ _ HR7.out HP7.out).mono ?_); rintro e w8 ⟨A8, c8, rfl, hA, hcap8, hb⟩; have HR8 := Lib.hid hA; have HS8 := Lib.hid (HS7.out.up hb); have HW8 := Lib.hid (below_chain HW7.out hb); clear hA hb))
        go_roundg (r - x * m)
        case measure => have := HRG.out; have h2 := HGM2.out; have h3 : x * 1 ≤ x * m := Nat.mul_le_mul_left x hm0; omega
        case rel => exact ⟨q + x, r - x * m, A6, A8, c6, c8, rfl, rfl, HS8.out, HR8.out, hcap6, hcap8, divmod_round HINV.out HGM2.out, rfl, HW8.out⟩
    · have hzlt : z < 0 := by rw [← hz]; unfold cmpN; rw [if_pos (by omega)]; decide
      obtain ⟨e1, e2⟩ := divmod_of hinv (by omega)
      have HQ := Lib.hid hQ
      have HR := Lib.hid hR
      have HBW := Lib.hid hbw
      have HE1 := Lib.hid e1
      have HE2 := Lib.hid e2
      clear hQ hR hbw hinv hz hrg hle e1 e2
      go_wp2_with (go_at_call 19; (with_reducible refine HC.out.mono ?_); rintro e w2 ⟨rfl, hb⟩; have HB3 := Lib.hid hb; clear hb)
      go_ret3
      rw [← HE1.out, ← HE2.out]
      exact ⟨Q, cq, R, cr, rfl, HQ.out.up HB3.out, HR.out.up HB3.out, hcq, hcr, below_chain HBW.out HB3.out⟩
theorem refdivmod_any (n m : Nat) (A B : Option Addr) (c d : Nat) (w : World) (h : KL .u32 w w.heap.size A (limbs n)) (h' : KL .u32 w w.heap.size B (limbs m)) (hnl : (limbs n).length ≤ 500) (hml : (limbs m).length ≤ 500) (hcap : (limbs n).length ≤ c) :
    Calls Try.prog 21 #[.slice A (limbs n).length c, .slice B (limbs m).length d] w fun e w' => MadeQR (n / m) (remN n m) (decide (0 < m)) w e w' := by
  rcases Nat.eq_zero_or_pos m with rfl | hm0
  · have hr : remN n 0 = 0 := rfl
    rw [Nat.div_zero, hr, limbs_zero]
    clear h h'
    go_enter Try.func21, Try.ntmps21
    go_wp2
    go_ret3
    exact ⟨none, 0, none, 0, by rw [limbs_zero]; rfl, by rw [limbs_zero]; exact KL.nil_, by rw [limbs_zero]; exact KL.nil_, by rw [limbs_zero]; simp, by rw [limbs_zero]; simp, Below.refl _ _⟩
  · rw [decide_eq_true hm0]
    exact refdivmod_pos n m A B c d w h h' hnl hml hcap hm0
end Go.Proofs.Ytdflhidhnejbbaa
