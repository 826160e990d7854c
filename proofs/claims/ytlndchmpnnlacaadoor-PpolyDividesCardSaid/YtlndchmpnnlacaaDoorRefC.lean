/- Contract of the reference: Mul. -/
import Derived.Test.YtlndchmpnnlacaaDoorRefA
import Derived.Test.YtlndchmpnnlacaaDoorZL
namespace Go.Proofs.YtlndchmpnnlacaaDoor
open Go.RowKit

/-- The product as far as it is reckoned: rows below i, and of row i the first j. -/
def PC (f g : Nat → Int) (i j k : Nat) : Int := sumZ i (fun a => if a ≤ k then f a * g (k - a) else 0) + (if i ≤ k ∧ k - i < j then f i * g (k - i) else 0)
theorem PC.start (f g : Nat → Int) (k : Nat) : PC f g 0 0 k = 0 := by unfold PC; simp [sumZ_zero]
theorem PC.step (f g : Nat → Int) (i j k : Nat) : PC f g i (j + 1) k = PC f g i j k + (if k = i + j then f i * g j else 0) := by
  unfold PC
  by_cases h : k = i + j
  · subst h
    rw [if_pos ⟨by omega, by omega⟩, if_neg (by omega), if_pos rfl, show i + j - i = j by omega]
    omega
  · rw [if_neg h, Int.add_zero]
    congr 1
    by_cases h2 : i ≤ k ∧ k - i < j
    · rw [if_pos h2, if_pos ⟨h2.1, by omega⟩]
    · rw [if_neg h2, if_neg (by omega)]
theorem PC.row (f g : Nat → Int) (m : Nat) (hg : ∀ b, m ≤ b → g b = 0) (i k : Nat) : PC f g (i + 1) 0 k = PC f g i m k := by
  unfold PC
  rw [sumZ_succ, if_neg (show ¬ (i + 1 ≤ k ∧ k - (i + 1) < 0) by omega), Int.add_zero]
  congr 1
  by_cases h : i ≤ k
  · rw [if_pos h]
    by_cases h2 : k - i < m
    · rw [if_pos ⟨h, h2⟩]
    · rw [if_neg (by omega), hg _ (by omega), Int.mul_zero]
  · rw [if_neg h, if_neg (by omega)]
theorem PC.done (f g : Nat → Int) (n : Nat) (hf : ∀ a, n ≤ a → f a = 0) (k : Nat) : PC f g n 0 k = conv f g k := by
  unfold PC conv
  rw [if_neg (by omega), Int.add_zero]
  have e1 : sumZ (k + 1) (fun a => f a * g (k - a)) = sumZ (k + 1) (fun a => if a ≤ k then f a * g (k - a) else 0) := sumZ_congr fun a ha => by rw [if_pos (by omega)]
  rw [e1]
  have e2 := sumZ_more (n := n) (m := max n (k + 1)) (fun a => if a ≤ k then f a * g (k - a) else 0) (Nat.le_max_left _ _) fun a ha _ => by rw [hf a ha, Int.zero_mul]; split <;> rfl
  have e3 := sumZ_more (n := k + 1) (m := max n (k + 1)) (fun a => if a ≤ k then f a * g (k - a) else 0) (Nat.le_max_right _ _) fun a ha _ => by rw [if_neg (by omega)]
  rw [← e2, e3]
/-- The row of a product, as far as it is reckoned. -/
def RowPC (p N : Nat) (f g : Nat → Int) (i j : Nat) (S : List Int) : Prop := S.length = N ∧ Dig p S ∧ ∀ k, k < N → S.getD k 0 = PC f g i j k % (p : Int)
theorem RowPC.start {p N : Nat} (hp : 0 < p) (f g : Nat → Int) : RowPC p N f g 0 0 (List.replicate N 0) := ⟨by simp, Dig.zeros hp N, fun k hk => by rw [PC.start]; simp [List.getD_eq_getElem?_getD, hk]⟩
theorem RowPC.step {p N : Nat} {f g : Nat → Int} {i j : Nat} {S : List Int} (h : RowPC p N f g i j S) {v : Int} (hk : i + j < N) (hv : v = (S.getD (i + j) 0 + f i * g j) % (p : Int)) (h0 : 0 ≤ v) (h1 : v < p) : RowPC p N f g i (j + 1) (S.set (i + j) v) := by
  obtain ⟨h2, h3, h4⟩ := h
  refine ⟨by simpa using h2, h3.set_ h0 h1 _, fun k hk' => ?_⟩
  rw [PC.step]
  by_cases e : k = i + j
  · subst e
    rw [if_pos rfl]
    simp only [List.getD_eq_getElem?_getD, List.getElem?_set_self (show i + j < S.length by omega), Option.getD_some]
    rw [hv, h4 _ hk', Int.emod_add_emod]
  · rw [if_neg e, Int.add_zero, ← h4 k hk']
    simp [List.getD_eq_getElem?_getD, List.getElem?_set_ne (Ne.symm e)]
theorem RowPC.next {p N m : Nat} {f g : Nat → Int} {i : Nat} {S : List Int} (h : RowPC p N f g i m S) (hg : ∀ b, m ≤ b → g b = 0) : RowPC p N f g (i + 1) 0 S := ⟨h.1, h.2.1, fun k hk => by rw [PC.row f g m hg]; exact h.2.2 k hk⟩
theorem RowPC.cano {p N n : Nat} {f g : Nat → Int} {S : List Int} (h : RowPC p N f g n 0 S) (hf : ∀ a, n ≤ a → f a = 0) : trimZ S = Go.Proofs.YtlndchmpnnlacaaDoor.cano p N (conv f g) := trimZ_cano h.1 fun k hk => by rw [h.2.2 k hk, PC.done f g n hf]
/-- A holds throughout; C till operation t is listed. -/
def BxS (t : Nat) (A C : World → Prop) (l : Array Bool) (w : World) : Prop := A w ∧ (l.getD t true = false → C w)
theorem BxS.iff {t i : Nat} {A C : World → Prop} (h : i ≠ t) (l : Array Bool) (w : World) : BxS t A C (l.setIfInBounds i true) w ↔ BxS t A C l w := by
  unfold BxS
  rw [getD_set_ne true h]
theorem BxS.base {t : Nat} {A C : World → Prop} (l : Array Bool) (w : World) (_ : openT [] l = true) (k : BxS t A C l w) : A w := k.1
theorem BxS.both {t : Nat} {A C : World → Prop} (l : Array Bool) (w : World) (h : openT [t] l = true) (k : BxS t A C l w) : A w ∧ C w := ⟨k.1, k.2 (eq_of_beq (List.all_eq_true.1 h t (by simp)))⟩
set_option maxRecDepth 100000 in
set_option maxHeartbeats 16000000 in
theorem rmul_yes (p : Nat) (A B : Option Addr) (xs ys : List Int) (c d : Nat) (w : World) (h : KL .u32 w w.heap.size A xs) (h' : KL .u32 w w.heap.size B ys) (hp : p ≤ 2147483647) (hp0 : 0 < p) (hd : Dig p xs) (hd' : Dig p ys) (hl : xs.length ≤ 1000000) (hl' : ys.length ≤ 1000000) (nx : xs ≠ []) (ny : ys ≠ []) :
    Calls Tryd.prog 35 #[.agg #[.int .u32 (p : Int), .slice A xs.length c], .agg #[.int .u32 (p : Int), .slice B ys.length d]] w fun e w' => MadeP p (mulP p xs ys) w e w' := by
  obtain ⟨i0, hi0, hz0, hz1, hz2⟩ := info_parts u32_info
  have lx := List.length_pos_iff.2 nx
  have ly := List.length_pos_iff.2 ny
  obtain ⟨N, hN⟩ : ∃ N, xs.length + ys.length - 1 = N := ⟨_, rfl⟩
  have hN1 : (xs.length : Int) + (ys.length : Int) - 1 = (N : Int) := by omega
  have H := Lib.hid h; clear h
  have HD := Lib.hid hd; clear hd
  have H' := Lib.hid h'; clear h'
  have HD' := Lib.hid hd'; clear hd'
  have HL0 := Lib.hid (laid2_start w p p (.slice A xs.length c) (.slice B ys.length d) (.int .u32 0) (.slice none 0 0) 25 25 25)
  have hp1 : ((p : Int) == 0) = false := by rw [beq_eq_false_iff_ne]; omega
  have hp2 : p ≠ 0 := by omega
  have w1 : IntKind.u64.wrap (p : Int) = (p : Int) := by rw [IntKind.wrap_u64]; omega
  have j1 : ((xs.length : Int) == 0) = false := by rw [nil_beq]; simp [nx]
  have j2 : ((ys.length : Int) == 0) = false := by rw [nil_beq]; simp [ny]
  have HRES : Hid (mulP p xs ys = cano p N (conv (co xs) (co ys))) := Lib.hid (by rw [← hN]; rfl)
  clear nx ny
  go_enter Tryd.func35, Tryd.ntmps35
  go_wp2_with (at_make; refine wpList_make_full _ rfl _ _ 23 rfl (w.heap.size + 1 + 1 + 1) 22 i0 (.int .u32 0) 1 Tryd.underlying23 hi0 hz0 hz1 _ _ _ _ N rfl rfl (by simp) (by simp) (by rw [hz2]; omega) (by unfold maxLen; omega) (by simp) ?_; intro w1' hown hg; simp only [World.size_alloc] at hown; have HO := Lib.hid (own_zeros hown); have HL := Lib.hid (HL0.out.up ((Below.refl _ _).grown hg (by simp) (fun k hk => by cases hk))); clear hown hg; obtain ⟨⟨b0, b1⟩, ⟨b2, b3⟩, ⟨u0, u1, d0, d1⟩, ⟨f0, f1⟩, hsz, hbw⟩ := HL.out; have HBW := Lib.hid hbw; clear hbw)
  go_loopw [6, 7] (fun i jv wr => ∃ (n : Nat) (S : List Int), n ≤ xs.length ∧ i = .int .i64 n ∧ Hid (RowPC p N (co xs) (co ys) n 0 S) ∧ (S.length = N ∧ wr.ownsRow (w.heap.size + 1 + 1 + 1) 22 1 (.slice (some ⟨w.heap.size + 1 + 1 + 1, 0, none⟩) N N) N (S.map (Value.int .u32)) ∧ Laid2 w p p (.slice A xs.length c) (.slice B ys.length d) wr)) (fun i _ _ => xs.length - (intOf i).toNat)
  case atStart => exact ⟨0, _, by omega, rfl, Lib.hid (RowPC.start hp0 _ _), by simp, HO.out, HL.out⟩
  case round =>
    clear HO HL b0 b1 b2 b3 u0 u1 d0 d1 f0 f1 hsz HBW HL0
    obtain ⟨n, S, hn, rfl, HS, hSl, hown, hL⟩ := hrel
    obtain ⟨⟨b0, b1⟩, ⟨b2, b3⟩, ⟨u0, u1, d0, d1⟩, ⟨f0, f1⟩, hsz, hbw⟩ := hL
    have HL : Hid (Laid2 w p p (.slice A xs.length c) (.slice B ys.length d) wr) := Lib.hid ⟨⟨b0, b1⟩, ⟨b2, b3⟩, ⟨u0, u1, d0, d1⟩, ⟨f0, f1⟩, hsz, hbw⟩
    by_cases hlt : n < xs.length
    · have i1 : decide ((n : Int) < (xs.length : Int)) = true := by simp; omega
      have i1n : decide (n < xs.length) = true := by simp; omega
      have HO := Lib.hid hown
      clear hown hbw
      go_wp2
      go_loopw [7] (fun jv w2 => ∃ (j : Nat) (S : List Int), j ≤ ys.length ∧ jv = .int .i64 j ∧ Hid (RowPC p N (co xs) (co ys) n j S) ∧ (S.length = N ∧ w2.ownsRow (w.heap.size + 1 + 1 + 1) 22 1 (.slice (some ⟨w.heap.size + 1 + 1 + 1, 0, none⟩) N N) N (S.map (Value.int .u32)) ∧ Laid2 w p p (.slice A xs.length c) (.slice B ys.length d) w2)) (fun jv _ => ys.length - (intOf jv).toNat)
      case atStart => exact ⟨0, S, by omega, rfl, HS, hSl, HO.out, HL.out⟩
      case round =>
        clear HO HL HS hSl b0 b1 b2 b3 u0 u1 d0 d1 f0 f1 hsz i1 i1n
        obtain ⟨j, S, hj, rfl, HS, hSl, hown, hL⟩ := hrel
        obtain ⟨⟨b0, b1⟩, ⟨b2, b3⟩, ⟨u0, u1, d0, d1⟩, ⟨f0, f1⟩, hsz, hbw⟩ := hL
        have HL : Hid (Laid2 w p p (.slice A xs.length c) (.slice B ys.length d) wr) := Lib.hid ⟨⟨b0, b1⟩, ⟨b2, b3⟩, ⟨u0, u1, d0, d1⟩, ⟨f0, f1⟩, hsz, hbw⟩
        by_cases hjl : j < ys.length
        · have i1 : decide ((j : Int) < (ys.length : Int)) = true := by simp; omega
          have i1n : decide (j < ys.length) = true := by simp; omega
          obtain ⟨k, hk⟩ : ∃ k, n + j = k := ⟨_, rfl⟩
          have hk1 : (n : Int) + (j : Int) = (k : Int) := by omega
          have hkN : k < N := by omega
          have hr := HD.out.at_ hlt
          have hr' := HD'.out.at_ hjl
          obtain ⟨x, hx⟩ : ∃ x : Nat, co xs n = x := ⟨(co xs n).toNat, by have : co xs n = xs.getD n 0 := rfl; omega⟩
          have hxp : x < p := by have : co xs n = xs.getD n 0 := rfl; omega
          obtain ⟨y, hy⟩ : ∃ y : Nat, co ys j = y := ⟨(co ys j).toNat, by have : co ys j = ys.getD j 0 := rfl; omega⟩
          have hyp : y < p := by have : co ys j = ys.getD j 0 := rfl; omega
          have hrz := HS.out.2.1.at_ (k := k) (by omega)
          obtain ⟨z, hz⟩ : ∃ z : Nat, S.getD k 0 = z := ⟨(S.getD k 0).toNat, by omega⟩
          have hzp : z < p := by omega
          have HA1 : Hid (∀ W : World, Below wr.heap.size wr W → Calls Tryd.prog 62 #[.agg #[.int .u32 (p : Int), .slice A xs.length c], .int .i64 (n : Int)] W fun e w' => e = .returned (.int .u64 (x : Int)) ∧ Below wr.heap.size wr w') := Lib.hid fun W hW => by
            rw [← hx]
            exact (at_any p n A xs c W ((H.out.up hbw).up hW) (HD.out.w (by omega)) (by omega)).mono fun e w' ⟨h1, h2⟩ => ⟨h1, below_chain hW h2⟩
          have HA2 : Hid (∀ W : World, Below wr.heap.size wr W → Calls Tryd.prog 62 #[.agg #[.int .u32 (p : Int), .slice B ys.length d], .int .i64 (j : Int)] W fun e w' => e = .returned (.int .u64 (y : Int)) ∧ Below wr.heap.size wr w') := Lib.hid fun W hW => by
            rw [← hy]
            exact (at_any p j B ys d W ((H'.out.up hbw).up hW) (HD'.out.w (by omega)) (by omega)).mono fun e w' ⟨h1, h2⟩ => ⟨h1, below_chain hW h2⟩
          have hm2 : x * y ≤ 2147483646 * 2147483646 := Nat.mul_le_mul (by omega) (by omega)
          obtain ⟨m, hm⟩ : ∃ m, x * y = m := ⟨_, rfl⟩
          have hm' : (x : Int) * (y : Int) = (m : Int) := by rw [← hm, Int.natCast_mul]
          rw [hm] at hm2
          obtain ⟨s, hs⟩ : ∃ s, z + m = s := ⟨_, rfl⟩
          have hs' : (z : Int) + (m : Int) = (s : Int) := by omega
          obtain ⟨t, ht⟩ : ∃ t, s % p = t := ⟨_, rfl⟩
          have htp : t < p := by rw [← ht]; exact Nat.mod_lt _ hp0
          obtain ⟨ht1, ht2⟩ := mod_parts ht
          have x1 : IntKind.u64.wrap (m : Int) = (m : Int) := by rw [IntKind.wrap_u64]; omega
          have x2 : IntKind.u64.wrap (s : Int) = (s : Int) := by rw [IntKind.wrap_u64]; omega
          have x3 : IntKind.u32.wrap (t : Int) = (t : Int) := by rw [IntKind.wrap_u32]; omega
          have x4 : IntKind.u64.wrap (z : Int) = (z : Int) := by rw [IntKind.wrap_u64]; omega
          have x5 : IntKind.i64.wrap (k : Int) = (k : Int) := by rw [IntKind.wrap_i64]; omega
          have HS2 : Hid (RowPC p N (co xs) (co ys) n (j + 1) (S.set k (t : Int))) := Lib.hid (by
            have := HS.out.step (v := (t : Int)) (by omega) (by rw [hk, hz, hx, hy, hm', hs', ht1]) (by omega) (by omega)
            rw [hk] at this
            exact this)
          have hcell := own_cell hown (j := k) hkN
          rw [hz] at hcell
          have hfz := hown.frozenAt k
          have HSX : Hid (∀ W : World, Below wr.heap.size wr W → ((W.cell? ⟨w.heap.size, 0, none⟩ = some (.int .u32 (p : Int)) ∧ W.cell? ⟨w.heap.size, 1, none⟩ = some (.slice A xs.length c)) ∧ (W.cell? ⟨w.heap.size + 1, 0, none⟩ = some (.int .u32 (p : Int)) ∧ W.cell? ⟨w.heap.size + 1, 1, none⟩ = some (.slice B ys.length d))) ∧ (W.cell? ⟨w.heap.size + 1 + 1 + 1, k, none⟩ = some (.int .u32 (z : Int)) ∧ W.frozen? ⟨w.heap.size + 1 + 1 + 1, k, none⟩ = false)) := Lib.hid fun W hW => by
            obtain ⟨e1, e2, _⟩ := HL.out.up (hW.mono hsz)
            have hR := own_size hown
            exact ⟨⟨e1, e2⟩, (hW.cell (p := ⟨w.heap.size + 1 + 1 + 1, k, none⟩) (by show w.heap.size + 1 + 1 + 1 < _; omega)).trans hcell, (hW.frozen (p := ⟨w.heap.size + 1 + 1 + 1, k, none⟩) (by show w.heap.size + 1 + 1 + 1 < _; omega)).trans hfz⟩
          have HDR : Hid (Below wr.heap.size wr wr.drew) := Lib.hid (Below.refl _ _).drew
          have HEND : Hid (∀ W : World, Below wr.heap.size wr W → (S.set k (t : Int)).length = N ∧ (W.setCell ⟨w.heap.size + 1 + 1 + 1, k, none⟩ (.int .u32 (t : Int))).ownsRow (w.heap.size + 1 + 1 + 1) 22 1 (.slice (some ⟨w.heap.size + 1 + 1 + 1, 0, none⟩) N N) N ((S.set k (t : Int)).map (Value.int .u32)) ∧ Laid2 w p p (.slice A xs.length c) (.slice B ys.length d) (W.setCell ⟨w.heap.size + 1 + 1 + 1, k, none⟩ (.int .u32 (t : Int)))) := Lib.hid fun W hW =>
            ⟨by simpa using hSl, own_set (own_below hown hW) k (t : Int), HL.out.up ((hW.mono hsz).setCell (by simp) _)⟩
          have HSTA : Hid (∀ W : World, Below wr.heap.size wr W → ((W.setCell ⟨w.heap.size + 1 + 1 + 1, k, none⟩ (.int .u32 (t : Int))).cell? ⟨w.heap.size, 0, none⟩ = some (.int .u32 (p : Int)) ∧ (W.setCell ⟨w.heap.size + 1 + 1 + 1, k, none⟩ (.int .u32 (t : Int))).cell? ⟨w.heap.size, 1, none⟩ = some (.slice A xs.length c)) ∧ ((W.setCell ⟨w.heap.size + 1 + 1 + 1, k, none⟩ (.int .u32 (t : Int))).cell? ⟨w.heap.size + 1, 0, none⟩ = some (.int .u32 (p : Int)) ∧ (W.setCell ⟨w.heap.size + 1 + 1 + 1, k, none⟩ (.int .u32 (t : Int))).cell? ⟨w.heap.size + 1, 1, none⟩ = some (.slice B ys.length d))) := Lib.hid fun W hW => by
            obtain ⟨e1, e2, _⟩ := (HEND.out W hW).2.2
            exact ⟨e1, e2⟩
          have k1 : (k : Int) < (N : Int) := by omega
          clear hx hy hz hm hs ht hr hr' hrz hcell hfz hown hbw hk hSl HS
          go_wp2
          refine wp_region_noPanic ?_
          refine wp_region_tail (BxS 25 (fun W : World => (W.cell? ⟨w.heap.size, 0, none⟩ = some (.int .u32 (p : Int)) ∧ W.cell? ⟨w.heap.size, 1, none⟩ = some (.slice A xs.length c)) ∧ (W.cell? ⟨w.heap.size + 1, 0, none⟩ = some (.int .u32 (p : Int)) ∧ W.cell? ⟨w.heap.size + 1, 1, none⟩ = some (.slice B ys.length d))) (fun W : World => W.cell? ⟨w.heap.size + 1 + 1 + 1, k, none⟩ = some (.int .u32 (z : Int)) ∧ W.frozen? ⟨w.heap.size + 1 + 1 + 1, k, none⟩ = false)) (by kernel_rfl) (⟨(HSX.out _ HDR.out).1, fun _ => (HSX.out _ HDR.out).2⟩) (fun hT => ?_)
          refine wpAnyT_take _ [] (i := 0) (oi := _) (v := ?_) (BxS.iff (by decide)) BxS.base rfl (by kernel_rfl) (by kernel_rfl) (by kernel_rfl) (by kernel_rfl) (by kernel_rfl) (fun _ _ _ h => h) (by assumption) (Or.inl ⟨by kernel_rfl, ?_⟩) (fun hT => ?_)
          rotate_left 1
          · intro w hSw
            (try dsimp only at hSw)
            first | (go_simp; done) | (go_simp; with_reducible rfl)
          (try simp only [Act.put, List.getElem_toArray, List.getElem_cons_zero, List.setIfInBounds_toArray, List.set_cons_zero, List.set_cons_succ])
          refine wpAnyT_take _ [] (i := 1) (oi := _) (v := ?_) (BxS.iff (by decide)) BxS.base rfl (by kernel_rfl) (by kernel_rfl) (by kernel_rfl) (by kernel_rfl) (by kernel_rfl) (fun _ _ _ h => h) (by assumption) (Or.inl ⟨by kernel_rfl, ?_⟩) (fun hT => ?_)
          rotate_left 1
          · intro w hSw
            (try dsimp only at hSw)
            first | (go_simp; done) | (go_simp; with_reducible rfl)
          (try simp only [Act.put, List.getElem_toArray, List.getElem_cons_succ, List.getElem_cons_zero, List.setIfInBounds_toArray, List.set_cons_zero, List.set_cons_succ])
          refine wpAnyT_take _ [] (i := 2) (oi := _) (v := ?_) (BxS.iff (by decide)) BxS.base rfl (by kernel_rfl) (by kernel_rfl) (by kernel_rfl) (by kernel_rfl) (by kernel_rfl) (fun _ _ _ h => h) (by assumption) (Or.inl ⟨by kernel_rfl, ?_⟩) (fun hT => ?_)
          rotate_left 1
          · intro w hSw
            (try dsimp only at hSw)
            first | (go_simp; done) | (go_simp; with_reducible rfl)
          (try simp only [Act.put, List.getElem_toArray, List.getElem_cons_succ, List.getElem_cons_zero, List.setIfInBounds_toArray, List.set_cons_zero, List.set_cons_succ])
          refine wpAnyT_take _ [] (i := 3) (oi := _) (v := ?_) (BxS.iff (by decide)) BxS.base rfl (by kernel_rfl) (by kernel_rfl) (by kernel_rfl) (by kernel_rfl) (by kernel_rfl) (fun _ _ _ h => h) (by assumption) (Or.inl ⟨by kernel_rfl, ?_⟩) (fun hT => ?_)
          rotate_left 1
          · intro w hSw
            (try dsimp only at hSw)
            first | (go_simp; done) | (go_simp; with_reducible rfl)
          (try simp only [Act.put, List.getElem_toArray, List.getElem_cons_succ, List.getElem_cons_zero, List.setIfInBounds_toArray, List.set_cons_zero, List.set_cons_succ])
          refine wpAnyT_take _ [] (i := 4) (oi := _) (v := ?_) (BxS.iff (by decide)) BxS.base rfl (by kernel_rfl) (by kernel_rfl) (by kernel_rfl) (by kernel_rfl) (by kernel_rfl) (fun _ _ _ h => h) (by assumption) (Or.inl ⟨by kernel_rfl, ?_⟩) (fun hT => ?_)
          rotate_left 1
          · intro w hSw
            (try dsimp only at hSw)
            first | (go_simp; done) | (go_simp; with_reducible rfl)
          (try simp only [Act.put, List.getElem_toArray, List.getElem_cons_succ, List.getElem_cons_zero, List.setIfInBounds_toArray, List.set_cons_zero, List.set_cons_succ])
          refine wpAnyT_take _ [] (i := 5) (oi := _) (v := ?_) (BxS.iff (by decide)) BxS.base rfl (by kernel_rfl) (by kernel_rfl) (by kernel_rfl) (by kernel_rfl) (by kernel_rfl) (fun _ _ _ h => h) (by assumption) (Or.inl ⟨by kernel_rfl, ?_⟩) (fun hT => ?_)
          rotate_left 1
          · intro w hSw
            (try dsimp only at hSw)
            first | (go_simp; done) | (go_simp; with_reducible rfl)
          (try simp only [Act.put, List.getElem_toArray, List.getElem_cons_succ, List.getElem_cons_zero, List.setIfInBounds_toArray, List.set_cons_zero, List.set_cons_succ])
          refine wpAnyT_take _ [] (i := 6) (oi := _) (v := ?_) (BxS.iff (by decide)) BxS.base rfl (by kernel_rfl) (by kernel_rfl) (by kernel_rfl) (by kernel_rfl) (by kernel_rfl) (fun _ _ _ h => h) (by assumption) (Or.inl ⟨by kernel_rfl, ?_⟩) (fun hT => ?_)
          rotate_left 1
          · intro w hSw
            (try dsimp only at hSw)
            first | (go_simp; done) | (go_simp; with_reducible rfl)
          (try simp only [Act.put, List.getElem_toArray, List.getElem_cons_succ, List.getElem_cons_zero, List.setIfInBounds_toArray, List.set_cons_zero, List.set_cons_succ])
          refine wpAnyT_take _ [] (i := 7) (oi := _) (v := ?_) (BxS.iff (by decide)) BxS.base rfl (by kernel_rfl) (by kernel_rfl) (by kernel_rfl) (by kernel_rfl) (by kernel_rfl) (fun _ _ _ h => h) (by assumption) (Or.inl ⟨by kernel_rfl, ?_⟩) (fun hT => ?_)
          rotate_left 1
          · intro w hSw
            (try dsimp only at hSw)
            first | (go_simp; done) | (go_simp; with_reducible rfl)
          (try simp only [Act.put, List.getElem_toArray, List.getElem_cons_succ, List.getElem_cons_zero, List.setIfInBounds_toArray, List.set_cons_zero, List.set_cons_succ])
          refine wpAnyT_take _ [] (i := 8) (oi := _) (v := ?_) (BxS.iff (by decide)) BxS.base rfl (by kernel_rfl) (by kernel_rfl) (by kernel_rfl) (by kernel_rfl) (by kernel_rfl) (fun _ _ _ h => h) (by assumption) (Or.inl ⟨by kernel_rfl, ?_⟩) (fun hT => ?_)
          rotate_left 1
          · intro w hSw
            (try dsimp only at hSw)
            first | (go_simp; done) | (go_simp; with_reducible rfl)
          (try simp only [Act.put, List.getElem_toArray, List.getElem_cons_succ, List.getElem_cons_zero, List.setIfInBounds_toArray, List.set_cons_zero, List.set_cons_succ])
          refine wpAnyT_take _ [25] (i := 9) (oi := _) (v := ?_) (BxS.iff (by decide)) BxS.both rfl (by kernel_rfl) (by kernel_rfl) (by kernel_rfl) (by kernel_rfl) (by kernel_rfl) (fun _ _ _ h => h) (by assumption) (Or.inl ⟨by kernel_rfl, ?_⟩) (fun hT => ?_)
          rotate_left 1
          · intro w hSw
            (try dsimp only at hSw)
            first | (go_simp; done) | (go_simp; with_reducible rfl)
          (try simp only [Act.put, List.getElem_toArray, List.getElem_cons_succ, List.getElem_cons_zero, List.setIfInBounds_toArray, List.set_cons_zero, List.set_cons_succ])
          refine wpAnyT_take _ [] (i := 10) (oi := _) (v := ?_) (BxS.iff (by decide)) BxS.base rfl (by kernel_rfl) (by kernel_rfl) (by kernel_rfl) (by kernel_rfl) (by kernel_rfl) (fun _ _ _ h => h) (by assumption) (Or.inl ⟨by kernel_rfl, ?_⟩) (fun hT => ?_)
          rotate_left 1
          · intro w hSw
            (try dsimp only at hSw)
            first | (go_simp; done) | (go_simp; with_reducible rfl)
          (try simp only [Act.put, List.getElem_toArray, List.getElem_cons_succ, List.getElem_cons_zero, List.setIfInBounds_toArray, List.set_cons_zero, List.set_cons_succ])
          refine wpAnyT_take _ [] (i := 11) (oi := _) (v := ?_) (BxS.iff (by decide)) BxS.base rfl (by kernel_rfl) (by kernel_rfl) (by kernel_rfl) (by kernel_rfl) (by kernel_rfl) (fun _ _ _ h => h) (by assumption) (Or.inl ⟨by kernel_rfl, ?_⟩) (fun hT => ?_)
          rotate_left 1
          · intro w hSw
            (try dsimp only at hSw)
            first | (go_simp; done) | (go_simp; with_reducible rfl)
          (try simp only [Act.put, List.getElem_toArray, List.getElem_cons_succ, List.getElem_cons_zero, List.setIfInBounds_toArray, List.set_cons_zero, List.set_cons_succ])
          refine wpAnyT_take _ [] (i := 12) (oi := _) (v := ?_) (BxS.iff (by decide)) BxS.base rfl (by kernel_rfl) (by kernel_rfl) (by kernel_rfl) (by kernel_rfl) (by kernel_rfl) (fun _ _ _ h => h) (by assumption) (Or.inl ⟨by kernel_rfl, ?_⟩) (fun hT => ?_)
          rotate_left 1
          · intro w hSw
            (try dsimp only at hSw)
            first | (go_simp; done) | (go_simp; with_reducible rfl)
          (try simp only [Act.put, List.getElem_toArray, List.getElem_cons_succ, List.getElem_cons_zero, List.setIfInBounds_toArray, List.set_cons_zero, List.set_cons_succ])
          refine wpAnyT_take _ [] (i := 14) (oi := _) (v := ?_) (BxS.iff (by decide)) BxS.base rfl (by kernel_rfl) (by kernel_rfl) (by kernel_rfl) (by kernel_rfl) (by kernel_rfl) (fun _ _ _ h => h) (by assumption) (Or.inl ⟨by kernel_rfl, ?_⟩) (fun hT => ?_)
          rotate_left 1
          · intro w hSw
            (try dsimp only at hSw)
            first | (go_simp; done) | (go_simp; with_reducible rfl)
          (try simp only [Act.put, List.getElem_toArray, List.getElem_cons_succ, List.getElem_cons_zero, List.setIfInBounds_toArray, List.set_cons_zero, List.set_cons_succ])
          refine wpAnyT_take _ [] (i := 15) (oi := _) (v := ?_) (BxS.iff (by decide)) BxS.base rfl (by kernel_rfl) (by kernel_rfl) (by kernel_rfl) (by kernel_rfl) (by kernel_rfl) (fun _ _ _ h => h) (by assumption) (Or.inl ⟨by kernel_rfl, ?_⟩) (fun hT => ?_)
          rotate_left 1
          · intro w hSw
            (try dsimp only at hSw)
            first | (go_simp; done) | (go_simp; with_reducible rfl)
          (try simp only [Act.put, List.getElem_toArray, List.getElem_cons_succ, List.getElem_cons_zero, List.setIfInBounds_toArray, List.set_cons_zero, List.set_cons_succ])
          refine wpAnyT_take _ [] (i := 19) (oi := _) (v := ?_) (BxS.iff (by decide)) BxS.base rfl (by kernel_rfl) (by kernel_rfl) (by kernel_rfl) (by kernel_rfl) (by kernel_rfl) (fun _ _ _ h => h) (by assumption) (Or.inl ⟨by kernel_rfl, ?_⟩) (fun hT => ?_)
          rotate_left 1
          · intro w hSw
            (try dsimp only at hSw)
            first | (go_simp; done) | (go_simp; with_reducible rfl)
          (try simp only [Act.put, List.getElem_toArray, List.getElem_cons_succ, List.getElem_cons_zero, List.setIfInBounds_toArray, List.set_cons_zero, List.set_cons_succ])
          refine wpAnyT_take _ [] (i := 20) (oi := _) (v := ?_) (BxS.iff (by decide)) BxS.base rfl (by kernel_rfl) (by kernel_rfl) (by kernel_rfl) (by kernel_rfl) (by kernel_rfl) (fun _ _ _ h => h) (by assumption) (Or.inl ⟨by kernel_rfl, ?_⟩) (fun hT => ?_)
          rotate_left 1
          · intro w hSw
            (try dsimp only at hSw)
            first | (go_simp; done) | (go_simp; with_reducible rfl)
          (try simp only [Act.put, List.getElem_toArray, List.getElem_cons_succ, List.getElem_cons_zero, List.setIfInBounds_toArray, List.set_cons_zero, List.set_cons_succ])
          refine wpAnyT_take _ [] (i := 21) (oi := _) (v := ?_) (BxS.iff (by decide)) BxS.base rfl (by kernel_rfl) (by kernel_rfl) (by kernel_rfl) (by kernel_rfl) (by kernel_rfl) (fun _ _ _ h => h) (by assumption) (Or.inl ⟨by kernel_rfl, ?_⟩) (fun hT => ?_)
          rotate_left 1
          · intro w hSw
            (try dsimp only at hSw)
            first | (go_simp; done) | (go_simp; with_reducible rfl)
          (try simp only [Act.put, List.getElem_toArray, List.getElem_cons_succ, List.getElem_cons_zero, List.setIfInBounds_toArray, List.set_cons_zero, List.set_cons_succ])
          refine wpAnyT_one (i := 13) (by kernel_rfl) (oi := _) rfl (fun K hK => ?_)
          (try dsimp only [List.getElem_toArray, List.getElem_cons_succ, List.getElem_cons_zero])
          go_simp
          go_at_call 62
          (with_reducible refine (HA1.out _ HDR.out).mono ?_)
          rintro e w3 ⟨rfl, hb3⟩
          go_wp2_with (fail)
          refine hK.out _ _ ⟨(HSX.out _ hb3).1, fun _ => (HSX.out _ hb3).2⟩ (fun hT => ?_)
          clear hK K
          (try simp only [Act.put, List.getElem_toArray, List.getElem_cons_succ, List.getElem_cons_zero, List.setIfInBounds_toArray, List.set_cons_zero, List.set_cons_succ])
          refine wpAnyT_one (i := 16) (by kernel_rfl) (oi := _) rfl (fun K hK => ?_)
          (try dsimp only [List.getElem_toArray, List.getElem_cons_succ, List.getElem_cons_zero])
          go_simp
          go_at_call 62
          (with_reducible refine (HA2.out _ hb3).mono ?_)
          rintro e w4 ⟨rfl, hb4⟩
          go_wp2_with (fail)
          refine hK.out _ _ ⟨(HSX.out _ hb4).1, fun _ => (HSX.out _ hb4).2⟩ (fun hT => ?_)
          clear hK K
          (try simp only [Act.put, List.getElem_toArray, List.getElem_cons_succ, List.getElem_cons_zero, List.setIfInBounds_toArray, List.set_cons_zero, List.set_cons_succ])
          refine wpAnyT_take _ [] (i := 17) (oi := _) (v := ?_) (BxS.iff (by decide)) BxS.base rfl (by kernel_rfl) (by kernel_rfl) (by kernel_rfl) (by kernel_rfl) (by kernel_rfl) (fun _ _ _ h => h) (by assumption) (Or.inl ⟨by kernel_rfl, ?_⟩) (fun hT => ?_)
          rotate_left 1
          · intro w hSw
            (try dsimp only at hSw)
            first | (go_simp; done) | (go_simp; with_reducible rfl)
          (try simp only [Act.put, List.getElem_toArray, List.getElem_cons_succ, List.getElem_cons_zero, List.setIfInBounds_toArray, List.set_cons_zero, List.set_cons_succ])
          refine wpAnyT_take _ [] (i := 18) (oi := _) (v := ?_) (BxS.iff (by decide)) BxS.base rfl (by kernel_rfl) (by kernel_rfl) (by kernel_rfl) (by kernel_rfl) (by kernel_rfl) (fun _ _ _ h => h) (by assumption) (Or.inl ⟨by kernel_rfl, ?_⟩) (fun hT => ?_)
          rotate_left 1
          · intro w hSw
            (try dsimp only at hSw)
            first | (go_simp; done) | (go_simp; with_reducible rfl)
          (try simp only [Act.put, List.getElem_toArray, List.getElem_cons_succ, List.getElem_cons_zero, List.setIfInBounds_toArray, List.set_cons_zero, List.set_cons_succ])
          refine wpAnyT_take _ [] (i := 22) (oi := _) (v := ?_) (BxS.iff (by decide)) BxS.base rfl (by kernel_rfl) (by kernel_rfl) (by kernel_rfl) (by kernel_rfl) (by kernel_rfl) (fun _ _ _ h => h) (by assumption) (Or.inl ⟨by kernel_rfl, ?_⟩) (fun hT => ?_)
          rotate_left 1
          · intro w hSw
            (try dsimp only at hSw)
            first | (go_simp; done) | (go_simp; with_reducible rfl)
          (try simp only [Act.put, List.getElem_toArray, List.getElem_cons_succ, List.getElem_cons_zero, List.setIfInBounds_toArray, List.set_cons_zero, List.set_cons_succ])
          refine wpAnyT_take _ [] (i := 23) (oi := _) (v := ?_) (BxS.iff (by decide)) BxS.base rfl (by kernel_rfl) (by kernel_rfl) (by kernel_rfl) (by kernel_rfl) (by kernel_rfl) (fun _ _ _ h => h) (by assumption) (Or.inl ⟨by kernel_rfl, ?_⟩) (fun hT => ?_)
          rotate_left 1
          · intro w hSw
            (try dsimp only at hSw)
            first | (go_simp; done) | (go_simp; with_reducible rfl)
          (try simp only [Act.put, List.getElem_toArray, List.getElem_cons_succ, List.getElem_cons_zero, List.setIfInBounds_toArray, List.set_cons_zero, List.set_cons_succ])
          refine wpAnyT_take _ [] (i := 24) (oi := _) (v := ?_) (BxS.iff (by decide)) BxS.base rfl (by kernel_rfl) (by kernel_rfl) (by kernel_rfl) (by kernel_rfl) (by kernel_rfl) (fun _ _ _ h => h) (by assumption) (Or.inl ⟨by kernel_rfl, ?_⟩) (fun hT => ?_)
          rotate_left 1
          · intro w hSw
            (try dsimp only at hSw)
            first | (go_simp; done) | (go_simp; with_reducible rfl)
          (try simp only [Act.put, List.getElem_toArray, List.getElem_cons_succ, List.getElem_cons_zero, List.setIfInBounds_toArray, List.set_cons_zero, List.set_cons_succ])
          obtain ⟨_, hc4, hf4⟩ := HSX.out _ hb4
          refine wpAnyT_one (i := 25) (by kernel_rfl) (oi := _) rfl (fun K hK => ?_)
          (try dsimp only [List.getElem_toArray, List.getElem_cons_succ, List.getElem_cons_zero])
          go_simp
          refine hK.out _ _ ⟨HSTA.out _ hb4, fun h => absurd h (by decide)⟩ (fun hT => ?_)
          clear hK K
          (try simp only [Act.put, List.getElem_toArray, List.getElem_cons_succ, List.getElem_cons_zero, List.setIfInBounds_toArray, List.set_cons_zero, List.set_cons_succ])
          refine wpAnyT_done (by kernel_rfl) ?_ _
          refine NoPanic.normal ?_
          go_wp2
          go_roundw
          case rel => exact ⟨j + 1, _, by omega, by go_num, HS2, HEND.out _ hb4⟩
          case measure => simp [intOf]; omega
        · obtain rfl : j = ys.length := by omega
          have i1 : decide ((ys.length : Int) < (ys.length : Int)) = false := by simp
          have i1n : decide (ys.length < ys.length) = false := by simp
          have HS2 := Lib.hid (HS.out.next (fun b hb => co_beyond hb))
          have HO := Lib.hid hown
          clear hown hbw HS
          go_wp2
          go_roundw
          case rel => exact ⟨n + 1, S, by omega, by go_num, HS2, hSl, HO.out, HL.out⟩
          case measure => simp [intOf]; omega
    · obtain rfl : n = xs.length := by omega
      obtain ⟨g1, g2, g3⟩ := KF.of_row hown
      have HG := Lib.hid g3.trim
      have HT : Hid (Calls Tryd.prog 64 #[.int .u32 (p : Int), .slice (some ⟨w.heap.size + 1 + 1 + 1, 0, none⟩) N N] wr fun e w' => e = .returned (.agg #[.int .u32 (p : Int), .slice (some ⟨w.heap.size + 1 + 1 + 1, 0, none⟩) (trimZ S).length N]) ∧ Below wr.heap.size wr w') := Lib.hid (by
        have h := cut_cap p (some ⟨w.heap.size + 1 + 1 + 1, 0, none⟩) S N wr g3.kl (HS.out.2.1.w (by omega)) (by omega) (by omega)
        rw [hSl] at h
        exact h)
      have HS2 : Hid (trimZ S = mulP p xs ys) := Lib.hid (by rw [HRES.out]; exact HS.out.cano (fun a ha => co_beyond ha))
      have HC2 : Hid ((trimZ S).length ≤ N) := Lib.hid (Nat.le_trans (trimZ_len S) (by omega))
      have i1 : decide ((xs.length : Int) < (xs.length : Int)) = false := by simp
      have i1n : decide (xs.length < xs.length) = false := by simp
      have HBW := Lib.hid hbw
      clear hown g1 g2 g3 HS hbw hSl
      go_wp2_with (go_at_call 64; (with_reducible refine HT.out.mono ?_); rintro e w2 ⟨rfl, hb2⟩; have HL2 := Lib.hid (HL.out.up (hb2.mono hsz)); have HG2 := Lib.hid (HG.out.below hb2); clear hb2; obtain ⟨⟨k0, k1⟩, ⟨k2, k3⟩, ⟨v0, v1, m0, m1⟩, ⟨n0, n1⟩, hsz2, hbw2⟩ := HL2.out; have HBW2 := Lib.hid hbw2; clear hbw2)
      obtain ⟨q0, q1⟩ := cells_two (u := .int .u32 (p : Int)) (v := .slice (some ⟨w.heap.size + 1 + 1 + 1, 0, none⟩) (trimZ S).length N) m0 m1
      refine bodyPost_ret (v := .agg #[.int .u32 (p : Int), .slice (some ⟨w.heap.size + 1 + 1 + 1, 0, none⟩) (trimZ S).length N]) (by simp [results, Tryd.results35, go_sem, q0, q1]) rfl ?_
      have hg := HG2.out
      have hc2 := HC2.out
      rw [HS2.out] at hg hc2 ⊢
      exact madeP_end HBW2.out (by omega) hg (by omega) hc2
set_option maxHeartbeats 1000000 in
theorem rmul_nil (p : Nat) (A B : Option Addr) (xs ys : List Int) (c d : Nat) (w : World) (hn : xs = [] ∨ (xs ≠ [] ∧ ys = [])) :
    Calls Tryd.prog 35 #[.agg #[.int .u32 (p : Int), .slice A xs.length c], .agg #[.int .u32 (p : Int), .slice B ys.length d]] w fun e w' => MadeP p [] w e w' := by
  rcases hn with hn | ⟨hn, hm⟩
  · have j1 : ((xs.length : Int) == 0) = true := by rw [hn]; rfl
    clear hn
    go_enter Tryd.func35, Tryd.ntmps35
    go_wp2
    refine bodyPost_ret (v := .agg #[.int .u32 (p : Int), .slice none 0 0]) (by simp [results, Tryd.results35, go_sem]) rfl ?_
    exact ⟨none, 0, rfl, fun h => absurd h (by simp), by simp, by go_grown⟩
  · have j1 : ((xs.length : Int) == 0) = false := by rw [nil_beq]; simp [hn]
    have j2 : ((ys.length : Int) == 0) = true := by rw [hm]; rfl
    clear hn hm
    go_enter Tryd.func35, Tryd.ntmps35
    go_wp2
    refine bodyPost_ret (v := .agg #[.int .u32 (p : Int), .slice none 0 0]) (by simp [results, Tryd.results35, go_sem]) rfl ?_
    exact ⟨none, 0, rfl, fun h => absurd h (by simp), by simp, by go_grown⟩
theorem rmul_any (p : Nat) (A B : Option Addr) (xs ys : List Int) (c d : Nat) (w : World) (h : KL .u32 w w.heap.size A xs) (h' : KL .u32 w w.heap.size B ys) (hp : p ≤ 2147483647) (hp0 : 0 < p) (hd : Dig p xs) (hd' : Dig p ys) (hl : xs.length ≤ 1000000) (hl' : ys.length ≤ 1000000) :
    Calls Tryd.prog 35 #[.agg #[.int .u32 (p : Int), .slice A xs.length c], .agg #[.int .u32 (p : Int), .slice B ys.length d]] w fun e w' => MadeP p (mulP p xs ys) w e w' := by
  by_cases nx : xs = []
  · have := rmul_nil p A B xs ys c d w (.inl nx)
    rw [nx, nil_mulP] at *
    exact this
  · by_cases ny : ys = []
    · have := rmul_nil p A B xs ys c d w (.inr ⟨nx, ny⟩)
      rw [ny, mulP_nil] at *
      exact this
    · exact rmul_yes p A B xs ys c d w h h' hp hp0 hd hd' hl hl' nx ny
end Go.Proofs.YtlndchmpnnlacaaDoor
