/- Contract of the reference: DivMod. -/
import Derived.Test.YtlndchmpnnlacaaDoorRefC
namespace Go.Proofs.YtlndchmpnnlacaaDoor
open Go.RowKit

section
variable {p : Nat} {xs ys Q R R0 : List Int} {top i j a : Nat} {kq : Int}
/-- A division on its way: what is taken off, and what is left. -/
def DvR (p : Nat) (xs ys : List Int) (top : Nat) (Q R : List Int) (a : Nat) : Prop :=
  Dig p Q ∧ Dig p R ∧ (∀ k, a + top ≤ k → R.getD k 0 = 0) ∧ (∀ b, b < a → Q.getD b 0 = 0) ∧ EqP p (co xs) (fun k => conv (co Q) (co ys) k + co R k)
theorem co_zeros (n : Nat) : co (List.replicate n 0) = fun _ => 0 := by
  funext i
  show (List.replicate n (0 : Int)).getD i 0 = 0
  by_cases h : i < n <;> simp [List.getD_eq_getElem?_getD, h]
theorem conv_nought (f : Nat → Int) (k : Nat) : conv (fun _ => 0) f k = 0 := sumZ_nought _ _ fun _i _ => Int.zero_mul _
theorem DvR.start (hp : 0 < p) (hx : Dig p xs) {D : Nat} (hD : D + 1 + top = xs.length) : DvR p xs ys top (List.replicate (D + 1) 0) xs (D + 1) :=
  ⟨Dig.zeros hp _, hx, fun k hk => by simp [List.getD_eq_getElem?_getD, List.getElem?_eq_none (show xs.length ≤ k by omega)], fun b hb => congrFun (co_zeros (D + 1)) b, EqP.of_eq (by funext k; rw [co_zeros, conv_nought, Int.zero_add])⟩
def RowI (p : Nat) (R0 ys : List Int) (i j : Nat) (kq : Int) (R : List Int) : Prop :=
  R.length = R0.length ∧ Dig p R ∧ ∀ k, R.getD k 0 = if i ≤ k ∧ k - i < j then (R0.getD k 0 - kq * ys.getD (k - i) 0) % (p : Int) else R0.getD k 0
theorem RowI.start (h : Dig p R0) : RowI p R0 ys i 0 kq R0 := ⟨rfl, h, fun k => by rw [if_neg (by omega)]⟩
theorem RowI.step (h : RowI p R0 ys i j kq R) (hj : i + j < R0.length) {v : Int} (hv : v = (R0.getD (i + j) 0 - kq * ys.getD j 0) % (p : Int)) (h0 : 0 ≤ v) (h1 : v < p) : RowI p R0 ys i (j + 1) kq (R.set (i + j) v) := by
  obtain ⟨h2, h3, h4⟩ := h
  refine ⟨by simpa using h2, h3.set_ h0 h1 _, fun k => ?_⟩
  by_cases e : k = i + j
  · subst e
    rw [if_pos ⟨by omega, by omega⟩, show i + j - i = j by omega, ← hv]
    simp [List.getD_eq_getElem?_getD, List.getElem?_set_self (show i + j < R.length by omega)]
  · have h5 : (R.set (i + j) v).getD k 0 = R.getD k 0 := by simp [List.getD_eq_getElem?_getD, List.getElem?_set_ne (Ne.symm e)]
    rw [h5, h4 k]
    by_cases h6 : i ≤ k ∧ k - i < j
    · rw [if_pos h6, if_pos ⟨h6.1, by omega⟩]
    · rw [if_neg h6, if_neg (by omega)]
theorem RowI.here (h : RowI p R0 ys i j kq R) : R.getD (i + j) 0 = R0.getD (i + j) 0 := by rw [h.2.2, if_neg (by omega)]
theorem RowI.co_ (h : RowI p R0 ys i ys.length kq R) (k : Nat) : (p : Int) ∣ co R k - (co R0 k - (if i ≤ k then kq * co ys (k - i) else 0)) := by
  have h4 : co R k = _ := h.2.2 k
  rw [h4]
  by_cases h1 : i ≤ k
  · rw [if_pos h1]
    by_cases h2 : k - i < ys.length
    · rw [if_pos ⟨h1, h2⟩]
      show (p : Int) ∣ (co R0 k - kq * co ys (k - i)) % p - (co R0 k - kq * co ys (k - i))
      exact ⟨-((co R0 k - kq * co ys (k - i)) / p), by rw [Int.emod_def, Int.mul_neg]; omega⟩
    · rw [if_neg (by omega), co_beyond (show ys.length ≤ k - i by omega), Int.mul_zero, Int.sub_zero]
      show (p : Int) ∣ co R0 k - co R0 k
      rw [Int.sub_self]; exact Int.dvd_zero _
  · rw [if_neg (by omega), if_neg h1, Int.sub_zero]
    show (p : Int) ∣ co R0 k - co R0 k
    rw [Int.sub_self]; exact Int.dvd_zero _
theorem DvR.next (h : DvR p xs ys top Q R0 (i + 1)) (hr : RowI p R0 ys i ys.length kq R) (htop : top + 1 = ys.length) (hi : i < Q.length) {iv : Int} (hiv : (p : Int) ∣ ys.getD top 0 * iv - 1)
    (hkq : kq = R0.getD (i + top) 0 * iv % (p : Int)) (h0 : 0 ≤ kq) (h1 : kq < p) : DvR p xs ys top (Q.set i kq) R i := by
  obtain ⟨q1, q2, q3, q4, q5⟩ := h
  have hco := hr.co_
  have hcq : co (Q.set i kq) = fun b => co Q b + mono1 i kq b := by
    funext b
    unfold mono1
    by_cases e : b = i
    · subst e
      rw [if_pos rfl, show co Q b = 0 from q4 b (by omega), Int.zero_add]
      show (Q.set b kq).getD b 0 = kq
      simp [List.getD_eq_getElem?_getD, hi]
    · rw [if_neg e, Int.add_zero]
      show (Q.set i kq).getD b 0 = Q.getD b 0
      simp [List.getD_eq_getElem?_getD, List.getElem?_set_ne (Ne.symm e)]
  refine ⟨q1.set_ h0 h1 _, hr.2.1, fun k hk => ?_, fun b hb => ?_, fun k => ?_⟩
  · rcases Nat.lt_or_ge (i + top) k with h2 | h2
    · rw [hr.2.2, if_neg (by omega)]
      exact q3 k (by omega)
    · obtain rfl : k = i + top := by omega
      rw [hr.2.2, if_pos ⟨by omega, by omega⟩, show i + top - i = top by omega]
      apply Int.emod_eq_zero_of_dvd
      obtain ⟨z, hz⟩ : ∃ z, R0.getD (i + top) 0 = z := ⟨_, rfl⟩
      obtain ⟨l, hl⟩ : ∃ l, ys.getD top 0 = l := ⟨_, rfl⟩
      rw [hz] at hkq ⊢
      rw [hl] at hiv ⊢
      obtain ⟨c, hc⟩ := hiv
      rw [hkq, Int.emod_def]
      refine ⟨z * iv / p * l - z * c, ?_⟩
      have e1 : z * (l * iv) = z * (1 + p * c) := by rw [← hc]; congr 1; omega
      rw [Int.mul_add, Int.mul_one] at e1
      have e2 : (z * iv - p * (z * iv / p)) * l = z * (l * iv) - p * (z * iv / p * l) := by rw [Int.sub_mul, Int.mul_assoc, Int.mul_comm iv l, Int.mul_assoc]
      rw [e2, e1, Int.mul_sub, show z * (↑p * c) = ↑p * (z * c) from Int.mul_left_comm z _ c]
      omega
  · rw [show (Q.set i kq).getD b 0 = Q.getD b 0 by simp [List.getD_eq_getElem?_getD, List.getElem?_set_ne (show i ≠ b by omega)]]
    exact q4 b (by omega)
  · have h5 : (p : Int) ∣ co xs k - (conv (co Q) (co ys) k + co R0 k) := q5 k
    have h6 := hco k
    show (p : Int) ∣ co xs k - (conv (co (Q.set i kq)) (co ys) k + co R k)
    have h7 : conv (co (Q.set i kq)) (co ys) k = conv (co Q) (co ys) k + (if i ≤ k then kq * co ys (k - i) else 0) := by
      rw [hcq, conv_comm, conv_add, conv_comm (co ys) (co Q), conv_comm (co ys) (mono1 i kq)]
      show conv (co Q) (co ys) k + conv (mono1 i kq) (co ys) k = _
      rw [conv_mono]
    rw [h7]
    obtain ⟨c, hc⟩ := h5
    obtain ⟨d, hd⟩ := h6
    exact ⟨c - d, by rw [Int.mul_sub, ← hc, ← hd]; omega⟩
theorem dig_trimZ {S : List Int} (h : Dig p S) : Dig p (trimZ S) := by
  obtain ⟨n, hn, h1, h2⟩ := trim_exists S
  rw [← take_trimZ hn h1 h2]
  exact fun x hx => h x (List.mem_of_mem_take hx)
theorem DvR.ends (_hp : PrimeN p) (h : DvR p xs ys top Q R 0) (htop : top + 1 = ys.length) : IsDiv p xs ys (trimZ Q) (trimZ R) where
  hq := ⟨dig_trimZ h.1, trimZ_can _⟩
  hr := ⟨dig_trimZ h.2.1, trimZ_can _⟩
  len := by
    have := Pol.beyond (p := p) (xs := trimZ R) ⟨dig_trimZ h.2.1, trimZ_can _⟩ (n := top) fun i hi => by
      rw [trimZ_co]
      show (p : Int) ∣ R.getD i 0
      rw [h.2.2.1 i (by omega)]; exact Int.dvd_zero _
    omega
  eq := by
    rw [show co (trimZ Q) = co Q from funext (trimZ_co Q), show co (trimZ R) = co R from funext (trimZ_co R)]
    exact h.2.2.2.2
end
/-- A row in a block, by its cells. -/
def RowC (W : World) (g n : Nat) (S : List Int) : Prop := (∀ k, k < n → W.cell? ⟨g, k, none⟩ = some (.int .u32 (S.getD k 0)) ∧ W.frozen? ⟨g, k, none⟩ = false) ∧ g < W.heap.size ∧ S.length = n
theorem RowC.below {W W' : World} {g n : Nat} {S : List Int} (h : RowC W g n S) (hb : Below W.heap.size W W') : RowC W' g n S :=
  ⟨fun k hk => ⟨(hb.cell (p := ⟨g, k, none⟩) h.2.1).trans (h.1 k hk).1, (hb.frozen (p := ⟨g, k, none⟩) h.2.1).trans (h.1 k hk).2⟩, Nat.lt_of_lt_of_le h.2.1 hb.size, h.2.2⟩
theorem RowC.other {W : World} {g n : Nat} {S : List Int} (h : RowC W g n S) {q : Addr} (hq : q.block ≠ g) (v : Value) : RowC (W.setCell q v) g n S :=
  ⟨fun k hk => ⟨(World.cell?_setCell_other _ _ _ _ (ne_of_block (by simpa using hq))).trans (h.1 k hk).1, by simpa using (h.1 k hk).2⟩, by simpa [World.setCell] using h.2.1, h.2.2⟩
theorem RowC.set {W : World} {g n : Nat} {S : List Int} (h : RowC W g n S) {i : Nat} (hi : i < n) (v : Int) : RowC (W.setCell ⟨g, i, none⟩ (.int .u32 v)) g n (S.set i v) :=
  ⟨fun k hk => ⟨by
    by_cases e : k = i
    · subst e
      rw [World.cell?_setCell_same _ _ _ (h.1 k hk).1]
      simp [List.getD_eq_getElem?_getD, h.2.2, hi]
    · rw [World.cell?_setCell_other _ _ _ _ (fun e2 => by injection e2 with _ e3; exact e e3.symm), (h.1 k hk).1]
      simp [List.getD_eq_getElem?_getD, List.getElem?_set_ne (Ne.symm e)], by simpa using (h.1 k hk).2⟩, by simpa [World.setCell] using h.2.1, by simpa using h.2.2⟩
theorem RowC.kf {W : World} {g n base : Nat} {S : List Int} (h : RowC W g n S) (hb : base ≤ g) : KF .u32 W base W.heap.size (some ⟨g, 0, none⟩) S := fun _ => ⟨_, rfl, hb, h.2.1, fun j hj => by
  have := (h.1 j (by rw [← h.2.2]; exact hj)).1
  rw [← this]
  unfold Addr.add
  by_cases h0 : j = 0 <;> simp [h0]⟩
theorem row_slice {w : World} {base : Nat} {e : TypeId} {v : Value} {n : Nat} {zs : List Int} (h : w.ownsRow base e 1 v n (zs.map (Value.int .u32))) (hn : 0 < n) : ∃ g c, v = .slice (some ⟨g, 0, none⟩) n c ∧ base ≤ g ∧ n ≤ c ∧ c ≤ maxLen ∧ RowC w g n zs := by
  have hz : zs.length = n := by have := h.1; simpa using this
  rcases h.2 with ⟨_, h0⟩ | ⟨g, cap, cur, hv, hb, hg, hc, hm, _⟩
  · omega
  · subst hv
    exact ⟨g, cap, rfl, hb, hc, hm, fun k hk => ⟨own_cell h hk, h.frozenAt k⟩, (Array.getElem?_eq_some_iff.1 hg).1, hz⟩
section
variable {P : Program} (w : World)
theorem run_append_KL (base : Nat) (t ty e : TypeId) (i : TypeInfo) (bytes : Nat) (ht : P.underlying t = some (.slice e)) (hi : P.info? e = some i) (hz : i.zero = some (.int .u32 0)) (hsize : i.size = 1) (hby : i.bytes = bytes)
    (v : Value) (n : Nat) (xs : List Value) (hown : w.ownsRow base e 1 v n xs) (B : Nat) (A : Option Addr) (c : Nat) (zs : List Int) (hr : KL .u32 w B A zs)
    (h63 : n + zs.length ≤ maxLen) (hbytes : (n + zs.length) * bytes ≤ 140737488355328) (hbase : base ≤ w.heap.size) :
    ∃ v' w', (Builtin.append_ #[t, t] ty #[v, .slice A zs.length c]).run P w = .ok v' w' ∧ w'.ownsRow base e 1 v' (n + zs.length) (xs ++ zs.map (Value.int .u32)) ∧ w.grownBy w' v.ownBlock := by
  rcases A with _ | ad
  · have hn : zs = [] := by
      rcases Nat.eq_zero_or_pos zs.length with h0 | h0
      · exact List.eq_nil_of_length_eq_zero h0
      · obtain ⟨ad, h, _⟩ := hr h0
        cases h
    subst hn
    refine ⟨v, w, ?_, by simpa using hown, World.grownBy.refl w _⟩
    rcases hown.2 with ⟨rfl, rfl⟩ | ⟨g, cap, cur, rfl, _, _, hnc, _⟩
    · simp [Builtin.append_, run_underlying ht, sizeOf, typeInfo, hi, Builtin.lenOf, Builtin.firstCells]
    · simp [Builtin.append_, run_underlying ht, sizeOf, typeInfo, hi, Builtin.lenOf, Builtin.firstCells, hnc, storeCells]
  · have hcells : ∀ j u, (zs.map (Value.int .u32))[j]? = some u → w.cell? (ad.add j) = some u := by
      intro j u hu
      have hj : j < zs.length := by
        rcases Nat.lt_or_ge j zs.length with h | h
        · exact h
        · rw [List.getElem?_eq_none (by simpa using h)] at hu; cases hu
      obtain ⟨ad', h, _, hc⟩ := hr (by omega)
      injection h with h
      subst h
      rw [hc j hj, ← hu, List.getElem?_map, List.getElem?_eq_getElem hj, getD_of_lt hj]
      rfl
    obtain ⟨v', w', hrun, h2, h3, _⟩ := run_append_own_at (P := P) w base t ty e i (.int .u32 0) 1 bytes ht hi hz hsize hby rfl (by omega) v n xs hown ad zs.length c (zs.map (Value.int .u32)) (by simp) hcells (by simp [Value.oneCell']) h63 hbytes hbase
    exact ⟨v', w', hrun, h2, h3⟩
theorem wpList_append_KL {ops : Array Oper} {rest : List Oper} {o : Oper} {a : Act} {Q : Exit → Act → World → Prop} (hgd : o.guard = none) (s x : Operand) (t : TypeId)
    (ho : o.op = .call { callee := .builtin .append, args := #[s, x], argTypes := #[t, t] })
    (base : Nat) (e : TypeId) (i : TypeInfo) (bytes : Nat) (ht : P.underlying t = some (.slice e)) (hi : P.info? e = some i) (hz : i.zero = some (.int .u32 0)) (hsize : i.size = 1) (hby : i.bytes = bytes)
    (v : Value) (n : Nat) (xs : List Value) (hs : a.eval s = v) (hown : w.ownsRow base e 1 v n xs)
    (B : Nat) (A : Option Addr) (m c : Nat) (zs : List Int) (hm : zs.length = m) (hx : a.eval x = .slice A m c) (hr : KL .u32 w B A zs)
    (h63 : n + m ≤ maxLen) (hbytes : (n + m) * bytes ≤ 140737488355328) (hbase : base ≤ w.heap.size)
    (h : ∀ v' w', w'.ownsRow base e 1 v' (n + m) (xs ++ zs.map (Value.int .u32)) → w.grownBy w' v.ownBlock → wpList P ops Q rest (a.put o.dst v') w') : wpList P ops Q (o :: rest) a w := by
  subst hm
  obtain ⟨v', w', hrun, h2, h3⟩ := run_append_KL (P := P) w base t o.type e i bytes ht hi hz hsize hby v n xs hown B A c zs hr h63 hbytes hbase
  refine wpList_plain hgd fun K hK' => ?_
  unfold Oper.wp execOp
  simp only [ho, resolve, invoke, builtin, Sem.run_bind, Sem.run_pure, Result.andThen_ok, List.map_toArray, List.map_cons, List.map_nil, hs, hx, hrun]
  exact hK' _ _ (h v' w' h2 h3)
end
/-- Two polynomials in their boxes, and the cells of two results. -/
def LaidE (w : World) (p : Nat) (v u : Value) (W : World) : Prop :=
  ((W.cell? ⟨w.heap.size, 0, none⟩ = some (.int .u32 (p : Int)) ∧ W.cell? ⟨w.heap.size, 1, none⟩ = some v) ∧ (W.cell? ⟨w.heap.size + 1, 0, none⟩ = some (.int .u32 (p : Int)) ∧ W.cell? ⟨w.heap.size + 1, 1, none⟩ = some u)) ∧
  ((∃ a b, W.cell? ⟨w.heap.size + 1 + 1, 0, none⟩ = some a ∧ W.cell? ⟨w.heap.size + 1 + 1, 1, none⟩ = some b) ∧ (∃ a b, W.cell? ⟨w.heap.size + 1 + 1 + 1, 0, none⟩ = some a ∧ W.cell? ⟨w.heap.size + 1 + 1 + 1, 1, none⟩ = some b)) ∧
  ((W.frozen? ⟨w.heap.size + 1 + 1, 0, none⟩ = false ∧ W.frozen? ⟨w.heap.size + 1 + 1, 1, none⟩ = false) ∧ (W.frozen? ⟨w.heap.size + 1 + 1 + 1, 0, none⟩ = false ∧ W.frozen? ⟨w.heap.size + 1 + 1 + 1, 1, none⟩ = false)) ∧
  w.heap.size + 1 + 1 + 1 + 1 ≤ W.heap.size ∧ Below w.heap.size w W
theorem LaidE.up {w : World} {p : Nat} {v u : Value} {W W' : World} (h : LaidE w p v u W) (hb : Below (w.heap.size + 1 + 1 + 1 + 1) W W') : LaidE w p v u W' := by
  obtain ⟨⟨⟨h1, h2⟩, ⟨k1, k2⟩⟩, ⟨⟨a, b, h3, h4⟩, ⟨a', b', l3, l4⟩⟩, ⟨⟨h5, h6⟩, ⟨l5, l6⟩⟩, h7, h8⟩ := h
  have c : ∀ b o, b < w.heap.size + 1 + 1 + 1 + 1 → W'.cell? ⟨b, o, none⟩ = W.cell? ⟨b, o, none⟩ := fun b o h => hb.cell (p := ⟨b, o, none⟩) h
  have f : ∀ b o, b < w.heap.size + 1 + 1 + 1 + 1 → W'.frozen? ⟨b, o, none⟩ = W.frozen? ⟨b, o, none⟩ := fun b o h => hb.frozen (p := ⟨b, o, none⟩) h
  exact ⟨⟨⟨(c _ _ (by omega)).trans h1, (c _ _ (by omega)).trans h2⟩, ⟨(c _ _ (by omega)).trans k1, (c _ _ (by omega)).trans k2⟩⟩, ⟨⟨a, b, (c _ _ (by omega)).trans h3, (c _ _ (by omega)).trans h4⟩, ⟨a', b', (c _ _ (by omega)).trans l3, (c _ _ (by omega)).trans l4⟩⟩,
    ⟨⟨(f _ _ (by omega)).trans h5, (f _ _ (by omega)).trans h6⟩, ⟨(f _ _ (by omega)).trans l5, (f _ _ (by omega)).trans l6⟩⟩, Nat.le_trans h7 hb.size, h8.trans (hb.mono (by omega))⟩
/-- The memory of a division on its way. -/
def DSt (w : World) (p : Nat) (v u : Value) (gR gQ N M : Nat) (R Q : List Int) (W : World) : Prop :=
  RowC W gR N R ∧ RowC W gQ M Q ∧ LaidE w p v u W ∧ gR ≠ gQ ∧ w.heap.size + 1 + 1 + 1 + 1 ≤ gR ∧ w.heap.size + 1 + 1 + 1 + 1 ≤ gQ
section
variable {w : World} {p : Nat} {v u : Value} {gR gQ N M : Nat} {R Q : List Int} {W W' : World}
theorem DSt.below (h : DSt w p v u gR gQ N M R Q W) (hb : Below W.heap.size W W') : DSt w p v u gR gQ N M R Q W' :=
  ⟨h.1.below hb, h.2.1.below hb, h.2.2.1.up (hb.mono h.2.2.1.2.2.2.1), h.2.2.2⟩
theorem DSt.setR (h : DSt w p v u gR gQ N M R Q W) {i : Nat} (hi : i < N) (x : Int) : DSt w p v u gR gQ N M (R.set i x) Q (W.setCell ⟨gR, i, none⟩ (.int .u32 x)) :=
  ⟨h.1.set hi x, h.2.1.other (by exact h.2.2.2.1) _, h.2.2.1.up ((Below.refl _ _).setCell (by exact h.2.2.2.2.1) _), h.2.2.2⟩
theorem DSt.setQ (h : DSt w p v u gR gQ N M R Q W) {i : Nat} (hi : i < M) (x : Int) : DSt w p v u gR gQ N M R (Q.set i x) (W.setCell ⟨gQ, i, none⟩ (.int .u32 x)) :=
  ⟨h.1.other (by exact h.2.2.2.1.symm) _, h.2.1.set hi x, h.2.2.1.up ((Below.refl _ _).setCell (by exact h.2.2.2.2.2) _), h.2.2.2⟩
end
end Go.Proofs.YtlndchmpnnlacaaDoor
