/- Contracts: dot. Contracts: Scale. -/
import Derived.Test.YtlndchmpnnlacaaDoorWd
namespace Go.Proofs.YtlndchmpnnlacaaDoor
open Go.RowKit

theorem KF.trim {k : IntKind} {w : World} {base B : Nat} {A : Option Addr} {xs : List Int} (h : KF k w base B A xs) : KF k w base B A (trimZ xs) := fun hn => by
  have hl := trimZ_len xs
  obtain ⟨ad, e, h1, h2, hc⟩ := h (by omega)
  refine ⟨ad, e, h1, h2, fun j hj => ?_⟩
  rw [hc j (by omega)]
  have := trimZ_co xs j
  unfold co at this
  rw [this]
theorem KL.trim {k : IntKind} {w : World} {B : Nat} {A : Option Addr} {xs : List Int} (h : KL k w B A xs) : KL k w B A (trimZ xs) := fun hn => by
  have hl := trimZ_len xs
  obtain ⟨ad, e, h2, hc⟩ := h (by omega)
  refine ⟨ad, e, h2, fun j hj => ?_⟩
  rw [hc j (by omega)]
  have := trimZ_co xs j
  unfold co at this
  rw [this]
theorem mod_of_dvd {p : Nat} {a b : Int} (h : (p : Int) ∣ a - b) : a % (p : Int) = b % (p : Int) := Int.emod_eq_emod_iff_emod_sub_eq_zero.mpr (Int.emod_eq_zero_of_dvd h)
/-- The sum that dot reckons. -/
def dotS (xs ys : List Int) (top n : Nat) : Int := sumZ n fun i => co xs i * co ys (top - i)
theorem dotS_succ (xs ys : List Int) (top n : Nat) : dotS xs ys top (n + 1) = dotS xs ys top n + co xs n * co ys (top - n) := rfl
theorem dot_next {p s m : Nat} {S : Int} (h : (p : Int) ∣ (s : Int) - S) : (p : Int) ∣ ((s + m : Nat) : Int) - (S + m) := by
  rwa [show ((s + m : Nat) : Int) - (S + m) = (s : Int) - S by omega]
theorem dot_less {p s b k : Nat} {S : Int} (h : (p : Int) ∣ (s : Int) - S) (hb : b = p * k) (hs : b ≤ s) : (p : Int) ∣ ((s - b : Nat) : Int) - S := by
  have h1 : (p : Int) ∣ (b : Int) := ⟨(k : Int), by rw [hb, Int.natCast_mul]⟩
  have := Int.dvd_sub h h1
  rwa [show (s : Int) - S - b = ((s - b : Nat) : Int) - S by omega] at this
set_option maxHeartbeats 2000000 in
theorem dot_any (p top : Nat) (A B : Option Addr) (xs ys : List Int) (c d : Nat) (w : World) (h : KL .u32 w w.heap.size A xs) (h' : KL .u32 w w.heap.size B ys) (hp : p ≤ 2147483647) (hp0 : 0 < p)
    (hd : Dig p xs) (hd' : Dig p ys) (hx : xs.length ≤ top + 1) (ht : 0 < xs.length → top < ys.length) (htl : top ≤ 1099511627776) :
    Calls Tryd.prog 69 #[.int .u32 (p : Int), .slice A xs.length c, .slice B ys.length d, .int .i64 (top : Int)] w fun e w' => e = .returned (.int .u32 (dotS xs ys top xs.length % (p : Int))) ∧ w = w' := by
  have H := Lib.hid h; clear h
  have H' := Lib.hid h'; clear h'
  have HD := Lib.hid hd; clear hd
  have HD' := Lib.hid hd'; clear hd'
  have HT := Lib.hid ht; clear ht
  obtain ⟨q, hq⟩ : ∃ q, 2 * p = q := ⟨_, rfl⟩
  obtain ⟨bd, hbd⟩ : ∃ bd, q * p = bd := ⟨_, rfl⟩
  have hq' : 2 * (p : Int) = (q : Int) := by omega
  have hbd' : (q : Int) * (p : Int) = (bd : Int) := by rw [← hbd, Int.natCast_mul]
  have hbl : bd ≤ 9223372028264841218 := by rw [← hbd]; exact Nat.le_trans (Nat.mul_le_mul (show q ≤ 4294967294 by omega) hp) (by decide)
  have hbp : bd = p * q := by rw [← hbd, Nat.mul_comm]
  have hb0 : 0 < bd := by rw [← hbd]; exact Nat.mul_pos (by omega) hp0
  have HBP := Lib.hid hbp
  have hbl' : (bd : Int) ≤ 9223372028264841218 := by omega
  have hb0' : (0 : Int) < (bd : Int) := by omega
  have hql : (q : Int) ≤ 4294967294 := by omega
  have hpp : p * p * 2 = bd := by rw [← hbd, ← hq]; rw [Nat.mul_comm 2 p, Nat.mul_assoc, Nat.mul_assoc, Nat.mul_comm 2 p]
  have HPP := Lib.hid hpp
  have hpn : p ≠ 0 := by omega
  have hpz : ((p : Int) == 0) = false := by rw [beq_eq_false_iff_ne]; omega
  clear hbp hpp hbd hq
  go_enter Tryd.func69, Tryd.ntmps69
  go_wp2
  go_loop [10, 21] (fun s i => ∃ k y : Nat, k ≤ xs.length ∧ i = .int .i64 k ∧ s = .int .u64 y ∧ y < bd ∧ Hid ((p : Int) ∣ (y : Int) - dotS xs ys top k)) (fun _ i => xs.length - (intOf i).toNat)
  case atStart => exact ⟨0, 0, Nat.zero_le _, rfl, rfl, hb0, Lib.hid (Int.dvd_zero _)⟩
  case round =>
    obtain ⟨k, s, hk, rfl, rfl, hs, HS⟩ := hrel
    by_cases hlt : k < xs.length
    · have hti := HT.out (by omega)
      obtain ⟨ad, rfl, _, hcA⟩ := H.out (by omega)
      obtain ⟨be, rfl, _, hcB⟩ := H'.out (by omega)
      have c1 := hcA k hlt
      have c2 := hcB (top - k) (by omega)
      have r1 := HD.out.at_ hlt
      have r2 := HD'.out.at_ (k := top - k) (by omega)
      obtain ⟨x, hxx⟩ : ∃ x : Nat, xs.getD k 0 = x := ⟨(xs.getD k 0).toNat, by omega⟩
      obtain ⟨y, hyy⟩ : ∃ y : Nat, ys.getD (top - k) 0 = y := ⟨(ys.getD (top - k) 0).toNat, by omega⟩
      rw [hxx] at c1 r1
      rw [hyy] at c2 r2
      obtain ⟨m, hm⟩ : ∃ m, x * y = m := ⟨_, rfl⟩
      have hml : m * 2 ≤ bd := by rw [← hm, ← HPP.out]; exact Nat.mul_le_mul_right 2 (Nat.mul_le_mul (by omega) (by omega))
      have hm' : (x : Int) * (y : Int) = (m : Int) := by rw [← hm, Int.natCast_mul]
      have HN : Hid ((p : Int) ∣ ((s + m : Nat) : Int) - dotS xs ys top (k + 1)) := Lib.hid (by
        rw [dotS_succ]
        have e1 : co xs k = (x : Int) := hxx
        have e2 : co ys (top - k) = (y : Int) := hyy
        rw [e1, e2, hm']
        exact dot_next HS.out)
      obtain ⟨tk, htk⟩ : ∃ tk, top - k = tk := ⟨_, rfl⟩
      rw [htk] at c2
      have htk' : (top : Int) - (k : Int) = (tk : Int) := by omega
      have i1 : (k : Int) < (xs.length : Int) := by omega
      have i2 : (tk : Int) < (ys.length : Int) := by omega
      have i3 : (0 : Int) ≤ (tk : Int) := by omega
      clear hcA hcB hxx hyy hm HS htk
      by_cases hge : bd ≤ s + m
      · have hge' : (bd : Int) ≤ (s : Int) + (m : Int) := by omega
        have HN2 : Hid ((p : Int) ∣ ((s + m - bd : Nat) : Int) - dotS xs ys top (k + 1)) := Lib.hid (dot_less HN.out HBP.out hge)
        have e3 : (s : Int) + (m : Int) - (bd : Int) = ((s + m - bd : Nat) : Int) := by omega
        go_wp2
        go_round
        case rel => exact ⟨k + 1, s + m - bd, by omega, by go_num, by first | rfl | (congr 1 <;> omega), by omega, HN2⟩
        case measure => simp [intOf] <;> omega
      · have hge' : ¬ (bd : Int) ≤ (s : Int) + (m : Int) := by omega
        go_wp2
        go_round
        case rel => exact ⟨k + 1, s + m, by omega, by go_num, by first | rfl | (congr 1 <;> omega), by omega, HN⟩
        case measure => simp [intOf] <;> omega
    · obtain rfl : k = xs.length := by omega
      obtain ⟨t, htt⟩ : ∃ t, s % p = t := ⟨_, rfl⟩
      obtain ⟨t1, t2⟩ := mod_parts htt
      have htp : t < p := by rw [← htt]; exact Nat.mod_lt _ hp0
      have HE : Hid ((t : Int) = dotS xs ys top xs.length % (p : Int)) := Lib.hid (by
        rw [← t1]
        exact mod_of_dvd HS.out)
      clear HS htt
      go_wp2
      go_ret
      exact ⟨ret_int HE.out, rfl⟩
end Go.Proofs.YtlndchmpnnlacaaDoor

namespace Go.Proofs.YtlndchmpnnlacaaDoor
open Go.RowKit

theorem bcell {W w1 : World} (hb : Below W.heap.size W w1) : (∀ b o, b < W.heap.size → w1.cell? ⟨b, o, none⟩ = W.cell? ⟨b, o, none⟩) ∧ (∀ b o, b < W.heap.size → w1.frozen? ⟨b, o, none⟩ = W.frozen? ⟨b, o, none⟩) :=
  ⟨fun b o h => hb.cell (p := ⟨b, o, none⟩) h, fun b o h => hb.frozen (p := ⟨b, o, none⟩) h⟩
/-- The first cells of a row are what is asked, the others nought. -/
def RowF (S : List Int) (n k : Nat) (F : Nat → Int) : Prop := S.length = n ∧ (∀ j, j < k → S.getD j 0 = F j) ∧ Dig 4294967296 S
theorem RowF.zero (n : Nat) (F : Nat → Int) : RowF (List.replicate n 0) n 0 F := ⟨by simp, fun j hj => by omega, Dig.zeros (by omega) n⟩
theorem Dig.set_ {b : Nat} {S : List Int} (h : Dig b S) {v : Int} (h0 : 0 ≤ v) (h1 : v < b) (k : Nat) : Dig b (S.set k v) := fun x hx => by
  rcases List.mem_or_eq_of_mem_set hx with hx | rfl
  · exact h x hx
  · exact ⟨h0, h1⟩
theorem RowF.next {S : List Int} {n k : Nat} {F : Nat → Int} (h : RowF S n k F) (hk : k < n) {v : Int} (hv : v = F k) (h0 : 0 ≤ v) (h1 : v < 4294967296) : RowF (S.set k v) n (k + 1) F := by
  obtain ⟨h2, h3, h4⟩ := h
  refine ⟨by simpa using h2, fun j hj => ?_, h4.set_ h0 (by omega) k⟩
  by_cases e : j = k
  · subst e
    simp [List.getD_eq_getElem?_getD, h2, hk, hv]
  · have := h3 j (by omega)
    simpa [List.getD_eq_getElem?_getD, List.getElem?_set_ne (Ne.symm e)] using this
theorem RowF.cano {p n : Nat} {S : List Int} {f : Nat → Int} (h : RowF S n n (fun i => f i % (p : Int))) : trimZ S = cano p n f := trimZ_cano h.1 h.2.1
theorem size_two (w : World) (a b : Obj) : ((w.alloc a).alloc b).heap.size = w.heap.size + 1 + 1 := by simp
/-- What a function has laid before it makes its row: its polynomial, and the cell of its result. -/
def Laid (w : World) (p : Nat) (v : Value) (W : World) : Prop :=
  (W.cell? ⟨w.heap.size, 0, none⟩ = some (.int .u32 (p : Int)) ∧ W.cell? ⟨w.heap.size, 1, none⟩ = some v) ∧
  (∃ u u', W.cell? ⟨w.heap.size + 1, 0, none⟩ = some u ∧ W.cell? ⟨w.heap.size + 1, 1, none⟩ = some u') ∧
  (W.frozen? ⟨w.heap.size + 1, 0, none⟩ = false ∧ W.frozen? ⟨w.heap.size + 1, 1, none⟩ = false) ∧ w.heap.size + 1 + 1 ≤ W.heap.size ∧ Below w.heap.size w W
theorem Laid.up {w : World} {p : Nat} {v : Value} {W W' : World} (h : Laid w p v W) (hb : Below (w.heap.size + 1 + 1) W W') : Laid w p v W' := by
  obtain ⟨⟨h1, h2⟩, ⟨u, u', h3, h4⟩, ⟨h5, h6⟩, h7, h8⟩ := h
  have c : ∀ b o, b < w.heap.size + 1 + 1 → W'.cell? ⟨b, o, none⟩ = W.cell? ⟨b, o, none⟩ := fun b o h => hb.cell (p := ⟨b, o, none⟩) h
  have f : ∀ b o, b < w.heap.size + 1 + 1 → W'.frozen? ⟨b, o, none⟩ = W.frozen? ⟨b, o, none⟩ := fun b o h => hb.frozen (p := ⟨b, o, none⟩) h
  exact ⟨⟨(c _ _ (by omega)).trans h1, (c _ _ (by omega)).trans h2⟩, ⟨u, u', (c _ _ (by omega)).trans h3, (c _ _ (by omega)).trans h4⟩,
    ⟨(f _ _ (by omega)).trans h5, (f _ _ (by omega)).trans h6⟩, Nat.le_trans h7 hb.size, h8.trans (hb.mono (by omega))⟩
theorem laid_start (w : World) (p : Nat) (v u u' : Value) (T T' : TypeId) : Laid w p v ((w.alloc (.cells #[.int .u32 (p : Int), v] T)).alloc (.cells #[u, u'] T')) :=
  ⟨⟨by simp, by simp⟩, ⟨u, u', by simp, by simp⟩, ⟨by simp, by simp⟩, by simp, ((Below.refl _ _).alloc (Nat.le_refl _) _).alloc (by simp) _⟩
set_option maxHeartbeats 2000000 in
theorem scale_any (p k : Nat) (A : Option Addr) (xs : List Int) (c : Nat) (w : World) (h : KL .u32 w w.heap.size A xs) (hp : p ≤ 2147483647) (hp0 : 0 < p) (hd : Dig p xs) (hk : k < p) (hl : xs.length ≤ 1099511627776) :
    Calls Tryd.prog 28 #[.agg #[.int .u32 (p : Int), .slice A xs.length c], .int .u32 (k : Int)] w fun e w' => MadeP p (scaleP p k xs) w e w' := by
  obtain ⟨i0, hi0, hz0, hz1, hz2⟩ := info_parts u32_info
  have H := Lib.hid h; clear h
  have HD := Lib.hid hd; clear hd
  have HM : Hid (∀ (x z : Nat) (W : World), x < p → x * k % p = z → Calls Tryd.prog 61 #[.int .u32 (p : Int), .int .u32 (x : Int), .int .u32 (k : Int)] W fun e w' => e = .returned (.int .u32 (z : Int)) ∧ W = w') := Lib.hid fun x z W hx hz => by rw [← hz]; exact mmul_any p x k W hp hp0 hx hk
  go_enter Tryd.func28, Tryd.ntmps28
  go_wp2_with (at_make; refine wpList_make_full _ rfl _ _ 23 rfl (w.heap.size + 1 + 1) 22 i0 (.int .u32 0) 1 Tryd.underlying23 hi0 hz0 hz1 _ _ _ _ xs.length rfl rfl (by simp) (by simp) (by rw [hz2]; omega) (by unfold maxLen; omega) (by simp) ?_; intro w1 hown hg; simp only [World.size_alloc] at hown; have HO := Lib.hid (own_zeros hown); have HL := Lib.hid ((laid_start w p (.slice A xs.length c) (.int .u32 0) (.slice none 0 0) _ _).up ((Below.refl _ _).grown hg (by simp) (fun k hk => by cases hk))); clear hown hg; obtain ⟨⟨b0, b1⟩, ⟨u0, u1, d0, d1⟩, ⟨f0, f1⟩, hsz, hbw⟩ := HL.out; have HBW := Lib.hid hbw; clear hbw)
  go_loopw [15] (fun i wr => ∃ (j : Nat) (S : List Int), j ≤ xs.length ∧ i = .int .i64 j ∧ RowF S xs.length j (fun i => (k * co xs i) % (p : Int)) ∧
      wr.ownsRow (w.heap.size + 1 + 1) 22 1 (.slice (some ⟨w.heap.size + 1 + 1, 0, none⟩) xs.length xs.length) xs.length (S.map (Value.int .u32)) ∧ Laid w p (.slice A xs.length c) wr) (fun i _ => xs.length - (intOf i).toNat)
  case atStart => exact ⟨0, _, Nat.zero_le _, rfl, RowF.zero _ _, HO.out, HL.out⟩
  case round =>
    clear HO HL b0 b1 d0 d1 f0 f1 hsz HBW
    obtain ⟨j, S, hj, rfl, hS, hown, hL⟩ := hrel
    obtain ⟨⟨b0, b1⟩, ⟨u0, u1, d0, d1⟩, ⟨f0, f1⟩, hsz, hbw⟩ := hL
    have HL : Hid (Laid w p (.slice A xs.length c) wr) := Lib.hid ⟨⟨b0, b1⟩, ⟨u0, u1, d0, d1⟩, ⟨f0, f1⟩, hsz, hbw⟩
    by_cases hlt : j < xs.length
    · obtain ⟨ad, rfl, hab, hcc⟩ := (H.out.below hbw) (by omega)
      have hcell := hcc j hlt
      have hr := HD.out.at_ hlt
      obtain ⟨x, hx⟩ : ∃ x : Nat, xs.getD j 0 = x := ⟨(xs.getD j 0).toNat, by omega⟩
      rw [hx] at hcell hr
      obtain ⟨z, hz⟩ : ∃ z, x * k % p = z := ⟨_, rfl⟩
      have HZ := Lib.hid hz
      have hzp : z < p := by rw [← hz]; exact Nat.mod_lt _ hp0
      have hfz := hown.frozenAt j
      have hcu := own_cell hown (j := j) (by omega)
      have HO := Lib.hid (own_set hown j (z : Int))
      have HS : Hid (RowF (S.set j (z : Int)) xs.length (j + 1) (fun i => (k * co xs i) % (p : Int))) := Lib.hid (hS.next hlt (by
        show (z : Int) = (k * co xs j) % (p : Int)
        have e : co xs j = (x : Int) := hx
        rw [e, ← hz, Int.natCast_emod, Int.natCast_mul, Int.mul_comm]) (by omega) (by omega))
      have HL2 := Lib.hid (HL.out.up ((Below.refl _ _).setCell (p := ⟨w.heap.size + 1 + 1, j, none⟩) (Nat.le_refl _) (.int .u32 (z : Int))))
      have i1 : (j : Int) < (xs.length : Int) := by omega
      clear hcc hx hz hown hS hbw
      go_wp2_with (go_at_call 61; (with_reducible refine (HM.out x z _ (by omega) HZ.out).mono ?_); rintro e w' ⟨rfl, rfl⟩)
      go_roundw
      case rel => exact ⟨j + 1, _, by omega, by go_num, HS.out, HO.out, HL2.out⟩
      case measure => simp [intOf]; omega
    · obtain rfl : j = xs.length := by omega
      obtain ⟨g1, g2, g3⟩ := KF.of_row hown
      have HG := Lib.hid g3.trim
      have HT : Hid (Calls Tryd.prog 63 #[.int .u32 (p : Int), .slice (some ⟨w.heap.size + 1 + 1, 0, none⟩) xs.length xs.length] wr fun e w' => e = .returned (.agg #[.int .u32 (p : Int), .slice (some ⟨w.heap.size + 1 + 1, 0, none⟩) (trimZ S).length (trimZ S).length]) ∧ Below wr.heap.size wr w') := Lib.hid (by
        have h := trim_any p (some ⟨w.heap.size + 1 + 1, 0, none⟩) S xs.length wr g3.kl hS.2.2 (by rw [hS.1]; exact Nat.le_refl _) (by omega)
        rw [hS.1] at h
        exact h)
      have HS : Hid (trimZ S = scaleP p k xs) := Lib.hid hS.cano
      have i1 : ¬ (xs.length : Int) < (xs.length : Int) := by omega
      have HBW := Lib.hid hbw
      clear hown g1 g2 g3 hS hbw
      go_wp2_with (go_at_call 63; (with_reducible refine HT.out.mono ?_); rintro e w2 ⟨rfl, hb2⟩; have HL2 := Lib.hid (HL.out.up (hb2.mono hsz)); have HG2 := Lib.hid (HG.out.below hb2); clear hb2; obtain ⟨⟨k0, k1⟩, ⟨v0, v1, m0, m1⟩, ⟨n0, n1⟩, hsz2, hbw2⟩ := HL2.out; have HBW2 := Lib.hid hbw2; clear hbw2)
      obtain ⟨q0, q1⟩ := cells_two (u := .int .u32 (p : Int)) (v := .slice (some ⟨w.heap.size + 1 + 1, 0, none⟩) (trimZ S).length (trimZ S).length) m0 m1
      refine bodyPost_ret (v := .agg #[.int .u32 (p : Int), .slice (some ⟨w.heap.size + 1 + 1, 0, none⟩) (trimZ S).length (trimZ S).length]) (by simp [results, Tryd.results28, go_sem, q0, q1]) rfl ?_
      have hg := HG2.out
      rw [HS.out] at hg ⊢
      exact madeP_end HBW2.out (by omega) hg (by omega) (Nat.le_refl _)
end Go.Proofs.YtlndchmpnnlacaaDoor
