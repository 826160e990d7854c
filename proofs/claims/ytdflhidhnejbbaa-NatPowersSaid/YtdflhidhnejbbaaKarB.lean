/- Contracts: sumWords. -/
import Derived.Test.YtdflhidhnejbbaaKarA
import Derived.Laws.CopyOwn
namespace Go.Proofs.Ytdflhidhnejbbaa
open Go.RowKit

theorem own_heap {w : World} {base g N : Nat} {e : TypeId} {xs : List Value} (h : w.ownsRow base e 1 (.slice (some ⟨g, 0, none⟩) N N) N xs) : w.heap[g]? = some (.cells xs.toArray e (0, 0)) := by
  rcases h.2 with ⟨hv, _⟩ | ⟨g', cap, cur, hv, _, hg, _, _, hsz, ht⟩
  · simp at hv
  · simp only [Value.slice.injEq, Option.some.injEq, Addr.mk.injEq, and_true, true_and] at hv
    obtain ⟨rfl, rfl⟩ := hv
    rw [List.take_of_length_le (by rw [Array.length_toList, hsz]; exact Nat.le_refl _)] at ht
    rw [hg, ← ht]
theorem own_of_heap {w : World} {base g N : Nat} {e : TypeId} {xs : List Value} (h : w.heap[g]? = some (.cells xs.toArray e (0, 0))) (hl : xs.length = N) (hb : base ≤ g) (hm : N ≤ maxLen) : w.ownsRow base e 1 (.slice (some ⟨g, 0, none⟩) N N) N xs :=
  ⟨by rw [hl, Nat.mul_one], .inr ⟨g, N, xs.toArray, rfl, hb, h, Nat.le_refl _, hm, by simp [hl], List.take_of_length_le (by simp [hl])⟩⟩
theorem val_pad {b : Nat} (xs : List Int) (n : Nat) : val b (xs ++ List.replicate n 0) = val b xs := by rw [val_append, val_zeros, Nat.mul_zero, Nat.add_zero]

theorem KL.src {k : IntKind} {w : World} {B : Nat} {A : Option Addr} {xs : List Int} (h : KL k w B A xs) (hp : 0 < (xs.map (Value.int k)).length) : ∃ ad, A = some ad ∧ ∀ (j : Nat) (v : Value), (xs.map (Value.int k))[j]? = some v → w.cell? (ad.add j) = some v := by
  rw [List.length_map] at hp
  obtain ⟨ad, e, _, hc⟩ := h hp
  refine ⟨ad, e, fun j v hv => ?_⟩
  have hj : j < xs.length := by
    rcases Nat.lt_or_ge j xs.length with h | h
    · exact h
    · rw [List.getElem?_eq_none (by simpa using h)] at hv; cases hv
  rw [hc j hj, ← hv, List.getElem?_map, List.getElem?_eq_getElem hj, getD_of_lt hj]
  rfl

set_option maxHeartbeats 2000000 in
theorem sumWords_any (A B : Option Addr) (xs ys : List Int) (c d N : Nat) (w : World) (h : KL .u64 w w.heap.size A xs) (h' : KL .u64 w w.heap.size B ys) (hd : W64 xs) (hd' : W64 ys) (hN : max (xs.length : Int) ys.length + 1 = (N : Int)) (hNl : N ≤ 1099511627776) :
    Calls Try.prog 63 #[.slice A xs.length c, .slice B ys.length d] w fun e w' => MadeW N (wv xs + wv ys) w e w' := by
  obtain ⟨i0, hi0, hz0, hz1, hz2⟩ := info_parts u64_info
  have hxN : xs.length + 1 ≤ N := by omega
  have hyN : ys.length + 1 ≤ N := by omega
  have hlt : wv xs + 18446744073709551616 ^ 0 * wv ys < 18446744073709551616 ^ N := by
    obtain ⟨M, rfl⟩ : ∃ M, N = M + 1 := ⟨N - 1, by omega⟩
    have h1 : wv xs < 18446744073709551616 ^ M := Nat.lt_of_lt_of_le (val_lt hd) (Nat.pow_le_pow_right (by omega) (by omega))
    have h2 : wv ys < 18446744073709551616 ^ M := Nat.lt_of_lt_of_le (val_lt hd') (Nat.pow_le_pow_right (by omega) (by omega))
    rw [Nat.pow_zero, Nat.one_mul, Nat.pow_succ]
    omega
  have HADD : Hid (∀ (W : World) (S : List Int), S.length = N → W64 S → wv S = wv xs → W.ownsRow w.heap.size 36 1 (.slice (some ⟨w.heap.size, 0, none⟩) N N) N (S.map (Value.int .u64)) → Below w.heap.size w W →
      Calls Try.prog 57 #[.slice (some ⟨w.heap.size, 0, none⟩) N N, .slice B ys.length d] W fun e w' => e = .returned (.tuple #[]) ∧ Put w.heap.size w.heap.size N (wv xs + wv ys) W w') :=
    Lib.hid fun W S hSl hSd hSv hown hb => by
      have h1 := addInto_any w.heap.size w.heap.size B S ys 0 N N d W hown (h'.below hb) hSd hd' hSl hNl (by omega) (Nat.zero_le _) (by rw [hSv]; exact hlt)
      rw [Nat.sub_zero, Nat.pow_zero, Nat.one_mul, hSv] at h1
      exact h1
  have HS0 : Hid ((xs ++ List.replicate (N - xs.length) 0).length = N ∧ W64 (xs ++ List.replicate (N - xs.length) 0) ∧ wv (xs ++ List.replicate (N - xs.length) 0) = wv xs) :=
    Lib.hid ⟨by rw [List.length_append, List.length_replicate]; omega, hd.append_ (Dig.zeros (by omega) _), val_pad xs _⟩
  have hsp : splice ((List.replicate N (0 : Int)).map (Value.int .u64)) 0 (xs.map (Value.int .u64)) = (xs ++ List.replicate (N - xs.length) 0).map (Value.int .u64) := by
    unfold splice
    simp
  have HSP := Lib.hid hsp
  have HC1 : Hid ((xs.map (Value.int .u64)).length = Nat.min xs.length N) := Lib.hid (by rw [List.length_map]; exact (Nat.min_eq_left (by omega)).symm)
  have HC3 : Hid (0 + (xs.map (Value.int .u64)).length ≤ ((List.replicate N (0 : Int)).map (Value.int .u64)).length) := Lib.hid (by simp; omega)
  have HC4 : Hid (∀ v ∈ xs.map (Value.int .u64), v.oneCell' = true) := Lib.hid (by simp [Value.oneCell'])
  have hsz1 : (Try.prog.info? 36).map (·.size) = some 1 := by rw [hi0]; simp [hz1]
  have H := Lib.hid h
  clear h h' hd hd' hlt hsp
  go_enter Try.func63, Try.ntmps63
  go_wp2_with (first
    | (at_make; refine wpList_make_full _ rfl _ _ 47 rfl w.heap.size 36 i0 (.int .u64 0) 1 Try.underlying47 hi0 hz0 hz1 _ _ _ _ N rfl rfl (by simp [hN]) (by simp [hN]) (by rw [hz2]; omega) (by unfold maxLen; omega) (Nat.le_refl _) ?_; intro w1 hown hg; have HO := Lib.hid (own_zeros hown); have HB := Lib.hid ((Below.refl w.heap.size w).grown hg (Nat.le_refl _) (fun k hk => by cases hk)); clear hown hg)
    | (refine wpList_copy_splice rfl _ _ 47 47 rfl 36 Try.underlying47 hsz1 (some ⟨w.heap.size, 0, none⟩) A N N xs.length c rfl rfl w.heap.size 0 ((List.replicate N (0 : Int)).map (Value.int .u64)) 36 (own_heap HO.out) (xs.map (Value.int .u64)) HC1.out (fun hp => ⟨rfl, (H.out.below HB.out).src hp⟩) HC3.out HC4.out w.heap.size w HB.out (Nat.le_refl _) ?_; intro w2 hw2 hb2; have HB2 := Lib.hid hb2; have HOW : Hid (w2.ownsRow w.heap.size 36 1 (.slice (some ⟨w.heap.size, 0, none⟩) N N) N ((xs ++ List.replicate (N - xs.length) 0).map (Value.int .u64))) := Lib.hid (own_of_heap (by rw [← HSP.out]; exact hw2.out) (by rw [List.length_map]; exact HS0.out.1) (Nat.le_refl _) (by unfold maxLen; omega)); clear hw2 hb2)
    | (go_at_call 57; (with_reducible refine (HADD.out _ _ HS0.out.1 HS0.out.2.1 HS0.out.2.2 HOW.out HB2.out).mono ?_); rintro e w3 ⟨rfl, S, hSl, hSd, hSv, hown, hg⟩; have HSL := Lib.hid hSl; have HSD := Lib.hid hSd; have HSV := Lib.hid hSv; have HO3 := Lib.hid hown; have HB3 := Lib.hid (HB2.out.grown hg HB2.out.size (fun k hk => by injection hk with hk; omega)); clear hSl hSd hSv hown hg))
  go_ret
  exact ⟨w.heap.size, S, HSL.out, HSD.out, HSV.out, rfl, HO3.out, HB3.out⟩
end Go.Proofs.Ytdflhidhnejbbaa
