/- Contracts of the reference: Trim, Of, Uint. -/
import Derived.Test.YtdflhidhnejbbaaMay
import Derived.Maps.AppendAt
namespace Go.Proofs.Ytdflhidhnejbbaa
open Go.RowKit

section
variable {P : Program} (w : World)
/-- append onto a row of the call's own of a slice that reads as ints, empty or not. -/
theorem run_append_KL (base : Nat) (t ty e : TypeId) (i : TypeInfo) (bytes : Nat) (ht : P.underlying t = some (.slice e)) (hi : P.info? e = some i) (hz : i.zero = some (.int .u32 0)) (hsize : i.size = 1) (hby : i.bytes = bytes)
    (v : Value) (n : Nat) (xs : List Value) (hown : w.ownsRow base e 1 v n xs) (B : Nat) (A : Option Addr) (c : Nat) (zs : List Int) (hr : KL .u32 w B A zs)
    (h63 : n + zs.length ≤ maxLen) (hbytes : (n + zs.length) * bytes ≤ 140737488355328) (hbase : base ≤ w.heap.size) :
    ∃ v' w', (Builtin.append_ #[t, t] ty #[v, .slice A zs.length c]).run P w = .ok v' w' ∧ w'.ownsRow base e 1 v' (n + zs.length) (xs ++ zs.map (Value.int .u32)) ∧ w.grownBy w' v.ownBlock := by
  rcases A with _ | ad
  · have hn : zs = [] := by
      rcases Nat.eq_zero_or_pos zs.length with h0 | h0
      · exact List.eq_nil_of_length_eq_zero h0
      · obtain ⟨ad, h, _⟩ := hr h0
        cases h
    subst hn
    refine ⟨v, w, ?_, by simpa using hown, World.grownBy.refl w _⟩
    rcases hown.2 with ⟨rfl, rfl⟩ | ⟨g, cap, cur, rfl, _, _, hnc, _⟩
    · simp [Builtin.append_, run_underlying ht, sizeOf, typeInfo, hi, Builtin.lenOf, Builtin.firstCells]
    · simp [Builtin.append_, run_underlying ht, sizeOf, typeInfo, hi, Builtin.lenOf, Builtin.firstCells, hnc, storeCells]
  · have hcells : ∀ j u, (zs.map (Value.int .u32))[j]? = some u → w.cell? (ad.add j) = some u := by
      intro j u hu
      have hj : j < zs.length := by
        rcases Nat.lt_or_ge j zs.length with h | h
        · exact h
        · rw [List.getElem?_eq_none (by simpa using h)] at hu; cases hu
      obtain ⟨ad', h, _, hc⟩ := hr (by omega)
      injection h with h
      subst h
      rw [hc j hj, ← hu, List.getElem?_map, List.getElem?_eq_getElem hj, getD_of_lt hj]
      rfl
    obtain ⟨v', w', hrun, h2, h3, _⟩ := run_append_own_at (P := P) w base t ty e i (.int .u32 0) 1 bytes ht hi hz hsize hby rfl (by omega) v n xs hown ad zs.length c (zs.map (Value.int .u32)) (by simp) hcells (by simp [Value.oneCell']) h63 hbytes hbase
    exact ⟨v', w', hrun, h2, h3⟩

end
theorem made_of_row {w' : World} {base : Nat} {e : TypeId} {v : Value} {n : Nat} {zs : List Int} (h : w'.ownsRow base e 1 v n (zs.map (Value.int .u32))) :
    ∃ A c, v = .slice A zs.length c ∧ KL .u32 w' w'.heap.size A zs ∧ zs.length ≤ c := by
  rcases h.2 with ⟨hv, h0⟩ | ⟨g, cap, cur, hv, _, _, _⟩
  · subst hv
    subst h0
    have hl : zs.length = 0 := by have := h.1; simpa using this
    refine ⟨none, 0, by rw [hl], fun hn => absurd hn (by omega), by omega⟩
  · subst hv
    obtain ⟨h1, h2, h3⟩ := KL.of_own h
    exact ⟨some ⟨g, 0, none⟩, cap, by rw [h1], h3, h2⟩

theorem wpList_append_KL {P : Program} (w : World) {ops : Array Oper} {rest : List Oper} {o : Oper} {a : Act} {Q : Exit → Act → World → Prop} (hgd : o.guard = none) (s x : Operand) (t : TypeId)
    (ho : o.op = .call { callee := .builtin .append, args := #[s, x], argTypes := #[t, t] })
    (base : Nat) (e : TypeId) (i : TypeInfo) (bytes : Nat) (ht : P.underlying t = some (.slice e)) (hi : P.info? e = some i) (hz : i.zero = some (.int .u32 0)) (hsize : i.size = 1) (hby : i.bytes = bytes)
    (v : Value) (n : Nat) (xs : List Value) (hs : a.eval s = v) (hown : w.ownsRow base e 1 v n xs)
    (B : Nat) (A : Option Addr) (m c : Nat) (zs : List Int) (hm : zs.length = m) (hx : a.eval x = .slice A m c) (hr : KL .u32 w B A zs)
    (h63 : n + m ≤ maxLen) (hbytes : (n + m) * bytes ≤ 140737488355328) (hbase : base ≤ w.heap.size)
    (h : ∀ v' w', w'.ownsRow base e 1 v' (n + m) (xs ++ zs.map (Value.int .u32)) → w.grownBy w' v.ownBlock → wpList P ops Q rest (a.put o.dst v') w') : wpList P ops Q (o :: rest) a w := by
  subst hm
  obtain ⟨v', w', hrun, h2, h3⟩ := run_append_KL (P := P) w base t o.type e i bytes ht hi hz hsize hby v n xs hown B A c zs hr h63 hbytes hbase
  refine wpList_plain hgd fun K hK' => ?_
  unfold Oper.wp execOp
  simp only [ho, resolve, invoke, builtin, Sem.run_bind, Sem.run_pure, Result.andThen_ok, List.map_toArray, List.map_cons, List.map_nil, hs, hx, hrun]
  exact hK' _ _ (h v' w' h2 h3)

set_option maxHeartbeats 400000 in
theorem reftrim_any (A : Option Addr) (xs : List Int) (c : Nat) (w : World) (h : KL .u32 w w.heap.size A xs) (hd : D32 xs) (hc : xs.length ≤ c) (hl : xs.length ≤ 1099511627776) :
    Calls Try.prog 40 #[.slice A xs.length c] w fun e w' => MadeN (nv xs) w e w' := by
  obtain ⟨i0, hi0, hz0, hz1, hz2⟩ := info_parts u32_info
  have H := Lib.hid h; clear h
  have HD := Lib.hid hd; clear hd
  go_enter Try.func40, Try.ntmps40
  go_wp2
  go_loop [3] (fun i => ∃ k : Nat, k ≤ xs.length ∧ i = .int .i64 k ∧ ∀ j, k ≤ j → j < xs.length → xs.getD j 0 = 0) (fun i => (intOf i).toNat)
  case atStart => exact ⟨xs.length, Nat.le_refl _, rfl, fun j hj hjl => by omega⟩
  case round =>
    obtain ⟨k, hk, rfl, hall⟩ := hrel
    have HA := Lib.hid hall; clear hall
    by_cases hk0 : 0 < k
    · obtain ⟨j, hj⟩ : ∃ j, k = j + 1 := ⟨k - 1, by omega⟩
      subst hj
      obtain ⟨ad, rfl, _, hcc⟩ := H.out (by omega)
      have hcell := hcc j (by omega)
      have hr := word_range HD.out (k := j) (by omega)
      obtain ⟨x, hx⟩ : ∃ x, xs.getD j 0 = x := ⟨_, rfl⟩
      rw [hx] at hcell hr
      have HX := Lib.hid hx
      have e1 : (((j + 1 : Nat) : Int)) - 1 = (j : Int) := by omega
      clear hcc hx
      by_cases hx0 : x = 0
      · have hb : (x == 0) = true := by simp [hx0]
        have HX0 := Lib.hid hx0; clear hx0
        go_wp2
        go_round
        case rel => exact ⟨j, by omega, by simp, fun i hi hil => by
          by_cases e : i = j
          · rw [e, HX.out]; exact HX0.out
          · exact HA.out i (by omega) hil⟩
        case measure => simp [intOf] <;> omega
      · have hb : (x == 0) = false := by simp [hx0]
        have HX0 := Lib.hid hx0; clear hx0
        have ht := trim_limbs HD.out hk (fun i hi hil => HA.out i hi hil) (fun i hi => by rw [show i = j by omega, HX.out]; exact HX0.out)
        have hlen : (limbs (nv xs)).length = j + 1 := by rw [← ht, List.length_take]; omega
        have hkl : KL .u32 w w.heap.size (some ad) (limbs (nv xs)) := trim_KL H.out HD.out
        have HLEN := Lib.hid hlen
        have HKL : Hid (KL .u32 (w.alloc (.cells #[] 41)) (w.alloc (.cells #[] 41)).heap.size (some ad) (limbs (nv xs))) := Lib.hid (hkl.up ((Below.refl _ _).alloc (Nat.le_refl _) _))
        clear ht hlen hkl
        go_wp2_with (refine wpList_append_KL _ rfl _ _ 22 rfl w.heap.size 41 i0 4 Try.underlying22 hi0 hz0 hz1 hz2 (.slice (some ⟨w.heap.size, 0, none⟩) 0 0) 0 [] rfl (World.ownsRow_lit _ _ 0 (Nat.le_refl _) (by unfold maxLen; omega) (by rfl)) _ _ (j + 1) c (limbs (nv xs)) HLEN.out rfl HKL.out (by unfold maxLen; omega) (by omega) (by simp) ?_; intro v3 w3 hown hgrow; have HO := Lib.hid hown; have HG := Lib.hid (((Below.refl w.heap.size w).alloc (Nat.le_refl _) (.cells #[] 41)).grown hgrow (by simp) (fun j hj => by simp [Value.ownBlock] at hj; omega)); clear hown hgrow)
        have hrow := HO.out
        rw [List.nil_append] at hrow
        obtain ⟨A3, c3, hv3, hA3, hc3⟩ := made_of_row hrow
        subst hv3
        go_ret
        exact ⟨_, _, rfl, hA3, hc3, HG.out⟩
    · obtain rfl : k = 0 := by omega
      have ht := trim_limbs HD.out hk (fun i hi hil => HA.out i hi hil) (fun i hi => by omega)
      have hlen : (limbs (nv xs)).length = 0 := by rw [← ht]; simp
      have HZ := Lib.hid (mul_lens.1 hlen)
      have hkl0 : KL .u32 (w.alloc (.cells #[] 41)) (w.alloc (.cells #[] 41)).heap.size A [] := KL.nil_
      have HKL := Lib.hid hkl0
      clear ht hlen hkl0
      go_wp2_with (refine wpList_append_KL _ rfl _ _ 22 rfl w.heap.size 41 i0 4 Try.underlying22 hi0 hz0 hz1 hz2 (.slice (some ⟨w.heap.size, 0, none⟩) 0 0) 0 [] rfl (World.ownsRow_lit _ _ 0 (Nat.le_refl _) (by unfold maxLen; omega) (by rfl)) _ _ 0 c [] rfl rfl HKL.out (by unfold maxLen; omega) (by omega) (by simp) ?_; intro v3 w3 hown hgrow; have HO := Lib.hid hown; have HG := Lib.hid (((Below.refl w.heap.size w).alloc (Nat.le_refl _) (.cells #[] 41)).grown hgrow (by simp) (fun j hj => by simp [Value.ownBlock] at hj; omega)); clear hown hgrow)
      have hrow := HO.out
      rw [List.nil_append] at hrow
      obtain ⟨A3, c3, hv3, hA3, hc3⟩ := made_of_row hrow
      subst hv3
      go_ret
      refine ⟨A3, c3, ?_, ?_, ?_, HG.out⟩
      · rw [HZ.out, limbs_zero]; rfl
      · rw [HZ.out, limbs_zero]; exact hA3
      · rw [HZ.out, limbs_zero]; exact hc3
end Go.Proofs.Ytdflhidhnejbbaa
