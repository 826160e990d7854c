/- The mathematics of MonoBlock, and one law: append of a slice that reads as ints. -/
import Derived.Test.YtflobccekfgiaaaLawO
import Derived.Maps.AppendAt
namespace Go.Proofs.Ytflobccekfgiaaa
open Go.RowKit

def cutL (k : Nat) (xs : List Int) : List Int := List.replicate k 0 ++ xs.drop k
theorem cutL_length {k : Nat} {xs : List Int} (h : k ≤ xs.length) : (cutL k xs).length = xs.length := by simp [cutL]; omega
theorem cutL_take (k : Nat) (xs : List Int) : (cutL k xs).take k = List.replicate k 0 := by simp [cutL]
theorem cutL_drop (k : Nat) (xs : List Int) : (cutL k xs).drop k = xs.drop k := by simp [cutL]
theorem cutL_lim {k : Nat} {xs : List Int} (hx : Lim 60 xs) (h : k ≤ xs.length) : Lim 60 (cutL k xs) := by
  refine ⟨by rw [cutL_length h]; exact hx.1, fun j hj => ?_⟩
  rw [cutL_length h] at hj
  by_cases e : j < k
  · have : (cutL k xs).getD j 0 = 0 := by simp [cutL, List.getD_eq_getElem?_getD, List.getElem?_append, e]
    omega
  · have : (cutL k xs).getD j 0 = xs.getD j 0 := by
      simp only [cutL, List.getD_eq_getElem?_getD]
      rw [List.getElem?_append_right (by simp; omega), List.getElem?_drop]
      congr 2
      simp; omega
    rw [this]
    exact hx.2 j hj
theorem degL_append (a b : List Int) : degL (a ++ b) = degL a + degL b := by
  induction a with
  | nil => simp [degL]
  | cons x a ih => rw [List.cons_append, degL_cons, degL_cons, ih]; omega
theorem block_one {k : Nat} {xs ys : List Int} (hl : xs.length = ys.length) (h : k ≤ xs.length) (hy : ∀ y ∈ ys, 0 ≤ y) (hd : 0 < degL (ys.take k)) : blockL k ys (cutL k xs) = 1 := by
  have hn : ∀ y ∈ ys.take k, 0 ≤ y := fun y m => hy y (List.mem_of_mem_take m)
  have e : List.replicate k (0 : Int) = List.replicate (ys.take k).length 0 := by rw [List.length_take]; congr 1; omega
  unfold blockL
  rw [cutL_take, grevL_key, e]
  rcases keyG_zeros hn with ⟨_, h1⟩ | h1
  · rw [h1]; rfl
  · rw [h1, degL_zeros] at hd; omega
theorem block_cut {k : Nat} {xs ys : List Int} (hl : xs.length = ys.length) : blockL k (cutL k xs) (cutL k ys) = grevL (cutL k xs) (cutL k ys) := by
  unfold blockL
  rw [cutL_take, cutL_take, cutL_drop, cutL_drop, grevL_key (List.replicate k 0), lexL_self]
  show grevL _ _ = _
  have e : ∀ zs : List Int, keyG (cutL k zs) = keyG (zs.drop k) ++ List.replicate k 0 := by
    intro zs
    unfold keyG cutL
    rw [degL_append, degL_zeros, List.reverse_append, List.reverse_replicate, List.map_append, List.map_replicate, List.cons_append]
    simp
  rw [grevL_key, grevL_key, e, e, lexL_append _ _ (by simp only [keyG_length, List.length_drop, hl]), lexL_self]
  split
  · assumption
  · rfl

section
variable {P : Program} (w : World)
/-- append onto a row of the call's own of a slice that reads as ints, empty or not. -/
theorem run_append_IL (base : Nat) (t ty e : TypeId) (i : TypeInfo) (bytes : Nat) (ht : P.underlying t = some (.slice e)) (hi : P.info? e = some i) (hz : i.zero = some (.int .i64 0)) (hsize : i.size = 1) (hby : i.bytes = bytes)
    (v : Value) (n : Nat) (xs : List Value) (hown : w.ownsRow base e 1 v n xs) (B : Nat) (A : Option Addr) (c : Nat) (zs : List Int) (hr : IL w B A zs)
    (h63 : n + zs.length ≤ maxLen) (hbytes : (n + zs.length) * bytes ≤ 140737488355328) (hbase : base ≤ w.heap.size) :
    ∃ v' w', (Builtin.append_ #[t, t] ty #[v, .slice A zs.length c]).run P w = .ok v' w' ∧ w'.ownsRow base e 1 v' (n + zs.length) (xs ++ zs.map (Value.int .i64)) ∧ w.grownBy w' v.ownBlock := by
  rcases A with _ | ad
  · have hn : zs = [] := by
      rcases Nat.eq_zero_or_pos zs.length with h0 | h0
      · exact List.eq_nil_of_length_eq_zero h0
      · obtain ⟨ad, h, _⟩ := hr h0
        cases h
    subst hn
    refine ⟨v, w, ?_, by simpa using hown, World.grownBy.refl w _⟩
    rcases hown.2 with ⟨rfl, rfl⟩ | ⟨g, cap, cur, rfl, _, _, hnc, _⟩
    · simp [Builtin.append_, run_underlying ht, sizeOf, typeInfo, hi, Builtin.lenOf, Builtin.firstCells]
    · simp [Builtin.append_, run_underlying ht, sizeOf, typeInfo, hi, Builtin.lenOf, Builtin.firstCells, hnc, storeCells]
  · have hcells : ∀ j u, (zs.map (Value.int .i64))[j]? = some u → w.cell? (ad.add j) = some u := by
      intro j u hu
      have hj : j < zs.length := by
        rcases Nat.lt_or_ge j zs.length with h | h
        · exact h
        · rw [List.getElem?_eq_none (by simpa using h)] at hu; cases hu
      obtain ⟨ad', h, _, hc⟩ := hr (by omega)
      injection h with h
      subst h
      rw [hc j hj, ← hu, List.getElem?_map, List.getElem?_eq_getElem hj, getD_of_lt hj]
      rfl
    obtain ⟨v', w', hrun, h2, h3, _⟩ := run_append_own_at (P := P) w base t ty e i (.int .i64 0) 1 bytes ht hi hz hsize hby rfl (by omega) v n xs hown ad zs.length c (zs.map (Value.int .i64)) (by simp) hcells (by simp [Value.oneCell']) h63 hbytes hbase
    exact ⟨v', w', hrun, h2, h3⟩

theorem step_append_IL {ops : Array Oper} {o : Oper} {a : Act} {K : Act → World → Prop} {Q : Exit → Act → World → Prop} {E : Prop} (hgd : o.guard = none) (s x : Operand) (t : TypeId)
    (ho : o.op = .call { callee := .builtin .append, args := #[s, x], argTypes := #[t, t] })
    (base : Nat) (e : TypeId) (i : TypeInfo) (bytes : Nat) (ht : P.underlying t = some (.slice e)) (hi : P.info? e = some i) (hz : i.zero = some (.int .i64 0)) (hsize : i.size = 1) (hby : i.bytes = bytes)
    (v : Value) (n : Nat) (xs : List Value) (hs : a.eval s = v) (hown : w.ownsRow base e 1 v n xs)
    (B : Nat) (A : Option Addr) (m c : Nat) (zs : List Int) (hm : zs.length = m) (hx : a.eval x = .slice A m c) (hr : IL w B A zs)
    (h63 : n + m ≤ maxLen) (hbytes : (n + m) * bytes ≤ 140737488355328) (hbase : base ≤ w.heap.size)
    (h : ∀ v' w', w'.ownsRow base e 1 v' (n + m) (xs ++ zs.map (Value.int .i64)) → w.grownBy w' v.ownBlock → K (a.put o.dst v') w') :
    if Region.wanted o (yielded ops a.tmps) = true then Oper.wp P o a w K Q else E := by
  have hw : Region.wanted o (yielded ops a.tmps) = true := by simp [Region.wanted, hgd]
  rw [if_pos hw]
  subst hm
  obtain ⟨v', w', hrun, h2, h3⟩ := run_append_IL (P := P) w base t o.type e i bytes ht hi hz hsize hby v n xs hown B A c zs hr h63 hbytes hbase
  unfold Oper.wp execOp
  simp only [ho, resolve, invoke, builtin, Sem.run_bind, Sem.run_pure, Result.andThen_ok, List.map_toArray, List.map_cons, List.map_nil, hs, hx, hrun]
  exact h v' w' h2 h3
end

/-- make, its length by a number of the walk: an equation at every world. -/
theorem run_make_ints {P : Program} (t e : TypeId) (i : TypeInfo) (ht : P.underlying t = some (.slice e)) (hi : P.info? e = some i) (hz : i.zero = some (.int .i64 0)) (h1 : i.size = 1) (h8 : i.bytes = 8) (n : Nat) (hn : n ≤ 65536) (w : World) :
    (Instr.makeSlice t (.int .i64 (n : Int)) (.int .i64 (n : Int))).run P w = .ok (.slice (some ⟨w.heap.size, 0, none⟩) n n) (w.alloc (.cells (madeCells (Value.int .i64 0).cells (n * 1)) e)) := by
  have hr := run_make (P := P) w t e i (.int .i64 0) ht hi hz .i64 .i64 n n (by omega) (by omega) (by rw [h8]; omega) (by omega)
  simp only [Int.toNat_natCast, h1] at hr
  exact hr
end Go.Proofs.Ytflobccekfgiaaa
