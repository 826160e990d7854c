/- Contract: Diff. -/
import Derived.Test.YtlndchmpnnlacaaDoorTail
namespace Go.Proofs.YtlndchmpnnlacaaDoor
open Go.RowKit

section
variable {P : Program} (w : World)
/-- append of one number, lately made, onto a row of the call's own. -/
theorem step_append1 {Y : _} {o : Oper} {a : Act} {K : Act → World → Prop} {Q : Exit → Act → World → Prop} {E : Prop} (hgd : o.guard = none) (s x : Operand) (t : TypeId)
    (ho : o.op = .call { callee := .builtin .append, args := #[s, x], argTypes := #[t, t] })
    (base : Nat) (e : TypeId) (i : TypeInfo) (bytes : Nat) (ht : P.underlying t = some (.slice e)) (hi : P.info? e = some i) (hz : i.zero = some (.int .u32 0)) (hsize : i.size = 1) (hby : i.bytes = bytes)
    (v : Value) (n : Nat) (xs : List Value) (hs : a.eval s = v) (hown : w.ownsRow base e 1 v n xs) (ad : Addr) (c : Nat) (z : Int) (hx : a.eval x = .slice (some ad) 1 c) (hr : w.cell? (ad.add 0) = some (.int .u32 z))
    (h63 : n + 1 ≤ maxLen) (hbytes : (n + 1) * bytes ≤ 140737488355328) (hbase : base ≤ w.heap.size)
    (h : ∀ v' w', w'.ownsRow base e 1 v' (n + 1) (xs ++ [.int .u32 z]) → w.grownBy w' v.ownBlock → K (a.put o.dst v') w') :
    if Region.wanted o Y = true then Oper.wp P o a w K Q else E := by
  have hw : Region.wanted o Y = true := by simp [Region.wanted, hgd]
  rw [if_pos hw]
  obtain ⟨v', w', hrun, h2, h3, _⟩ := run_append_own_at (P := P) w base t o.type e i (.int .u32 0) 1 bytes ht hi hz hsize hby rfl (by omega) v n xs hown ad 1 c [.int .u32 z] (by simp) (fun j u hu => by
    rcases j with _ | j
    · simp at hu; rw [← hu]; exact hr
    · simp at hu) (by simp [Value.oneCell']) h63 hbytes hbase
  unfold Oper.wp execOp
  simp only [ho, resolve, invoke, builtin, Sem.run_bind, Sem.run_pure, Result.andThen_ok, List.map_toArray, List.map_cons, List.map_nil, hs, hx, hrun]
  exact h v' w' h2 h3
end
theorem RowF.snoc {S : List Int} {n : Nat} {F : Nat → Int} (h : RowF S n n F) {v : Int} (hv : v = F n) (h0 : 0 ≤ v) (h1 : v < 4294967296) : RowF (S ++ [v]) (n + 1) (n + 1) F := by
  obtain ⟨h2, h3, h4⟩ := h
  refine ⟨by simp [h2], fun j hj => ?_, h4.append_ (Dig.cons_ h0 (by omega) Dig.nil_)⟩
  by_cases e : j = n
  · subst e
    simp [List.getD_eq_getElem?_getD, ← h2]
    rw [h2]; exact hv
  · have := h3 j (by omega)
    rw [← this]
    simp [List.getD_eq_getElem?_getD, List.getElem?_append_left (show j < S.length by omega)]
theorem RowF.nil_ (F : Nat → Int) : RowF [] 0 0 F := ⟨rfl, fun _j hj => absurd hj (Nat.not_lt_zero _), Dig.nil_⟩
/-- What a row of the call's own is, as a slice. -/
theorem row_made {w' : World} {base : Nat} {e : TypeId} {v : Value} {n : Nat} {zs : List Int} (h : w'.ownsRow base e 1 v n (zs.map (Value.int .u32))) :
    ∃ A c, v = .slice A zs.length c ∧ KF .u32 w' base w'.heap.size A zs ∧ zs.length ≤ c ∧ c ≤ maxLen := by
  rcases h.2 with ⟨hv, h0⟩ | ⟨g, cap, cur, hv, _, _, _, hm, _⟩
  · subst hv
    subst h0
    have hl : zs.length = 0 := by have := h.1; simpa using this
    exact ⟨none, 0, by rw [hl], fun hn => absurd hn (by omega), by omega, by unfold maxLen; omega⟩
  · subst hv
    obtain ⟨h1, h2, h3⟩ := KF.of_row h
    exact ⟨some ⟨g, 0, none⟩, cap, by rw [h1], h3, h2, hm⟩
theorem Laid.grown {w : World} {p : Nat} {v : Value} {W W' : World} {u : Value} {e : TypeId} {n : Nat} {xs : List Value} (h : Laid w p v W) (hg : W.grownBy W' u.ownBlock) (hown : W.ownsRow (w.heap.size + 1 + 1) e 1 u n xs) : Laid w p v W' :=
  h.up ((Below.refl (w.heap.size + 1 + 1) W).grown hg h.2.2.2.1 fun j hj => by
    rcases hown.2 with ⟨rfl, _⟩ | ⟨g, cap, cur, rfl, hb, _⟩
    · cases hj
    · have : g = j := by simpa [Value.ownBlock] using hj
      omega)
set_option maxHeartbeats 1000000 in
theorem trim_cap (p : Nat) (A : Option Addr) (xs : List Int) (c : Nat) (w : World) (h : KL .u32 w w.heap.size A xs) (hd : Dig 4294967296 xs) (hc : xs.length ≤ c) (hl : xs.length ≤ 4611686018427387904) :
    Calls Tryd.prog 63 #[.int .u32 (p : Int), .slice A xs.length c] w fun e w' => e = .returned (.agg #[.int .u32 (p : Int), .slice A (trimZ xs).length (trimZ xs).length]) ∧ Below w.heap.size w w' := by
  have H : KL .u32 (w.alloc (.cells #[.int .u32 0, .slice none 0 0] 25)) w.heap.size A xs := h.below ((Below.refl _ _).alloc (Nat.le_refl _) _)
  have H := Lib.hid H; clear h
  have HD := Lib.hid hd; clear hd
  go_enter Tryd.func63, Tryd.ntmps63
  go_wp2
  go_loop [5] (fun i => ∃ k : Nat, k ≤ xs.length ∧ i = .int .i64 k ∧ ∀ j, k ≤ j → j < xs.length → xs.getD j 0 = 0) (fun i => (intOf i).toNat)
  case atStart => exact ⟨xs.length, Nat.le_refl _, rfl, fun j hj hjl => by omega⟩
  case round =>
    obtain ⟨k, hk, rfl, hall⟩ := hrel
    have HA := Lib.hid hall; clear hall
    by_cases hk0 : 0 < k
    · obtain ⟨j, hj⟩ : ∃ j, k = j + 1 := ⟨k - 1, by omega⟩
      subst hj
      obtain ⟨ad, rfl, _, hcc⟩ := H.out (by omega)
      have hcell := hcc j (by omega)
      have hr := HD.out.at_ (k := j) (by omega)
      obtain ⟨x, hx⟩ : ∃ x, xs.getD j 0 = x := ⟨_, rfl⟩
      rw [hx] at hcell hr
      have HX := Lib.hid hx
      have e1 : (((j + 1 : Nat) : Int)) - 1 = (j : Int) := by omega
      clear hcc hx
      by_cases hx0 : x = 0
      · have hb : (x == 0) = true := by simp [hx0]
        have HX0 := Lib.hid hx0; clear hx0
        go_wp2
        go_round
        case rel => exact ⟨j, by omega, by simp, fun i hi hil => by
          by_cases e : i = j
          · rw [e, HX.out]; exact HX0.out
          · exact HA.out i (by omega) hil⟩
        case measure => simp [intOf] <;> omega
      · have hb : (x == 0) = false := by simp [hx0]
        have HX0 := Lib.hid hx0; clear hx0
        have ht := take_trimZ hk (fun i hi hil => HA.out i hi hil) (fun i hi => by rw [show i = j by omega, HX.out]; exact HX0.out)
        have hlen : (trimZ xs).length = j + 1 := by rw [← ht, List.length_take]; omega
        have HL := Lib.hid hlen
        clear ht hlen
        go_wp2
        refine bodyPost_ret (v := .agg #[.int .u32 (p : Int), .slice (some ad) (j + 1) (j + 1)]) (by simp [results, Tryd.results63, go_sem]) rfl ?_
        exact ⟨by rw [HL.out], by go_grown⟩
    · obtain rfl : k = 0 := by omega
      have ht := take_trimZ hk (fun i hi hil => HA.out i hi hil) (fun i hi => by omega)
      have hlen : (trimZ xs).length = 0 := by rw [← ht]; simp
      have HL := Lib.hid hlen
      clear ht hlen
      go_wp2
      refine bodyPost_ret (v := .agg #[.int .u32 (p : Int), .slice A 0 0]) (by simp [results, Tryd.results63, go_sem]) rfl ?_
      exact ⟨by rw [HL.out], by go_grown⟩
set_option maxHeartbeats 1000000 in
theorem cut_cap (p : Nat) (A : Option Addr) (xs : List Int) (c : Nat) (w : World) (h : KL .u32 w w.heap.size A xs) (hd : Dig 4294967296 xs) (hc : xs.length ≤ c) (hl : xs.length ≤ 4611686018427387904) :
    Calls Tryd.prog 64 #[.int .u32 (p : Int), .slice A xs.length c] w fun e w' => e = .returned (.agg #[.int .u32 (p : Int), .slice A (trimZ xs).length c]) ∧ Below w.heap.size w w' := by
  have H : KL .u32 (w.alloc (.cells #[.int .u32 0, .slice none 0 0] 25)) w.heap.size A xs := h.below ((Below.refl _ _).alloc (Nat.le_refl _) _)
  have H := Lib.hid H; clear h
  have HD := Lib.hid hd; clear hd
  go_enter Tryd.func64, Tryd.ntmps64
  go_wp2
  go_loop [5] (fun i => ∃ k : Nat, k ≤ xs.length ∧ i = .int .i64 k ∧ ∀ j, k ≤ j → j < xs.length → xs.getD j 0 = 0) (fun i => (intOf i).toNat)
  case atStart => exact ⟨xs.length, Nat.le_refl _, rfl, fun j hj hjl => by omega⟩
  case round =>
    obtain ⟨k, hk, rfl, hall⟩ := hrel
    have HA := Lib.hid hall; clear hall
    by_cases hk0 : 0 < k
    · obtain ⟨j, hj⟩ : ∃ j, k = j + 1 := ⟨k - 1, by omega⟩
      subst hj
      obtain ⟨ad, rfl, _, hcc⟩ := H.out (by omega)
      have hcell := hcc j (by omega)
      have hr := HD.out.at_ (k := j) (by omega)
      obtain ⟨x, hx⟩ : ∃ x, xs.getD j 0 = x := ⟨_, rfl⟩
      rw [hx] at hcell hr
      have HX := Lib.hid hx
      have e1 : (((j + 1 : Nat) : Int)) - 1 = (j : Int) := by omega
      clear hcc hx
      by_cases hx0 : x = 0
      · have hb : (x == 0) = true := by simp [hx0]
        have HX0 := Lib.hid hx0; clear hx0
        go_wp2
        go_round
        case rel => exact ⟨j, by omega, by simp, fun i hi hil => by
          by_cases e : i = j
          · rw [e, HX.out]; exact HX0.out
          · exact HA.out i (by omega) hil⟩
        case measure => simp [intOf] <;> omega
      · have hb : (x == 0) = false := by simp [hx0]
        have HX0 := Lib.hid hx0; clear hx0
        have ht := take_trimZ hk (fun i hi hil => HA.out i hi hil) (fun i hi => by rw [show i = j by omega, HX.out]; exact HX0.out)
        have hlen : (trimZ xs).length = j + 1 := by rw [← ht, List.length_take]; omega
        have HL := Lib.hid hlen
        clear ht hlen
        go_wp2
        refine bodyPost_ret (v := .agg #[.int .u32 (p : Int), .slice (some ad) (j + 1) c]) (by simp [results, Tryd.results64, go_sem]) rfl ?_
        exact ⟨by rw [HL.out], by go_grown⟩
    · obtain rfl : k = 0 := by omega
      have ht := take_trimZ hk (fun i hi hil => HA.out i hi hil) (fun i hi => by omega)
      have hlen : (trimZ xs).length = 0 := by rw [← ht]; simp
      have HL := Lib.hid hlen
      clear ht hlen
      go_wp2
      refine bodyPost_ret (v := .agg #[.int .u32 (p : Int), .slice A 0 c]) (by simp [results, Tryd.results64, go_sem]) rfl ?_
      exact ⟨by rw [HL.out], by go_grown⟩
set_option maxRecDepth 100000 in
set_option maxHeartbeats 4000000 in
theorem diff_any (p : Nat) (A : Option Addr) (xs : List Int) (c : Nat) (w : World) (h : KL .u32 w w.heap.size A xs) (hp : p ≤ 2147483647) (hp0 : 0 < p) (hd : Dig p xs) (hl : xs.length ≤ 1000000) :
    Calls Tryd.prog 26 #[.agg #[.int .u32 (p : Int), .slice A xs.length c]] w fun e w' => MadeP p (derP p xs) w e w' := by
  obtain ⟨i0, hi0, hz0, hz1, hz2⟩ := info_parts u32_info
  have H := Lib.hid h; clear h
  have HD := Lib.hid hd; clear hd
  have HM : Hid (∀ (x y z : Nat) (W : World), x < p → y < p → x * y % p = z → Calls Tryd.prog 61 #[.int .u32 (p : Int), .int .u32 (x : Int), .int .u32 (y : Int)] W fun e w' => e = .returned (.int .u32 (z : Int)) ∧ W = w') := Lib.hid fun x y z W hx hy hz => by rw [← hz]; exact mmul_any p x y W hp hp0 hx hy
  have HL0 := Lib.hid (laid_start w p (.slice A xs.length c) (.int .u32 0) (.slice none 0 0) 25 25)
  go_enter Tryd.func26, Tryd.ntmps26
  go_wp2
  go_loopw [3, 9] (fun cv i wr => ∃ (j : Nat) (S : List Int), j ≤ xs.length ∧ i = .int .i64 j ∧ RowF S (j - 1) (j - 1) (fun i => derZ (co xs) i % (p : Int)) ∧
      wr.ownsRow (w.heap.size + 1 + 1) 22 1 cv (j - 1) (S.map (Value.int .u32)) ∧ Laid w p (.slice A xs.length c) wr) (fun _ i _ => xs.length - (intOf i).toNat)
  case atStart => exact ⟨0, [], Nat.zero_le _, rfl, RowF.nil_ _, World.ownsRow_nil _ _ _ _, HL0.out⟩
  case round =>
    clear HL0
    obtain ⟨j, S, hj, rfl, hS, hown, hL⟩ := hrel
    obtain ⟨⟨b0, b1⟩, ⟨u0, u1, d0, d1⟩, ⟨f0, f1⟩, hsz, hbw⟩ := hL
    have HL : Hid (Laid w p (.slice A xs.length c) wr) := Lib.hid ⟨⟨b0, b1⟩, ⟨u0, u1, d0, d1⟩, ⟨f0, f1⟩, hsz, hbw⟩
    by_cases hlt : j < xs.length
    · obtain ⟨ad, rfl, hab, hcc⟩ := (H.out.below hbw) (by omega)
      have hcell := hcc j hlt
      have hr := HD.out.at_ hlt
      obtain ⟨x, hx⟩ : ∃ x : Nat, xs.getD j 0 = x := ⟨(xs.getD j 0).toNat, by omega⟩
      rw [hx] at hcell hr
      have HX := Lib.hid hx
      have i1 : (j : Int) < (xs.length : Int) := by omega
      clear hcc hx
      by_cases hj0 : j = 0
      · have i2 : decide ((0 : Int) < (j : Int)) = false := by simp; omega
        have i2n : decide (0 < j) = false := by simp; omega
        have HJ := Lib.hid hj0
        have HS := Lib.hid hS
        have HO := Lib.hid hown
        clear hS hown hbw hj0
        go_wp2
        go_roundw
        case rel => exact ⟨j + 1, S, by omega, by go_num, by have := HS.out; rw [HJ.out] at this ⊢; exact this, by have := HO.out; rw [HJ.out] at this ⊢; exact this, HL.out⟩
        case measure => simp [intOf]; omega
      · have i2 : decide ((0 : Int) < (j : Int)) = true := by simp; omega
        have i2n : decide (0 < j) = true := by simp; omega
        obtain ⟨m, hm⟩ : ∃ m, j % p = m := ⟨_, rfl⟩
        have hmp : m < p := by rw [← hm]; exact Nat.mod_lt _ hp0
        obtain ⟨z, hz⟩ : ∃ z, x * m % p = z := ⟨_, rfl⟩
        have HZ := Lib.hid hz
        have hzp : z < p := by rw [← hz]; exact Nat.mod_lt _ hp0
        have i3 : ((j : Int) % (p : Int)) = (m : Int) := by rw [← hm]; rfl
        have i4 : ((j : Int).tmod (p : Int)) = (m : Int) := by rw [Int.tmod_eq_emod_of_nonneg (by omega)]; exact i3
        have i5 : ¬ p = 0 := by omega
        have i6 : IntKind.u32.wrap (m : Int) = (m : Int) := by rw [IntKind.wrap_u32]; omega
        have i8 : IntKind.i64.wrap (p : Int) = (p : Int) := by rw [IntKind.wrap_i64]; omega
        have i7 : ((p : Int) == 0) = false := by rw [beq_eq_false_iff_ne]; omega
        obtain ⟨k, hk⟩ : ∃ k, j = k + 1 := ⟨j - 1, by omega⟩
        have HS : Hid (RowF (S ++ [(z : Int)]) j j (fun i => derZ (co xs) i % (p : Int))) := Lib.hid (by
          have h1 : j - 1 + 1 = j := by omega
          have := hS.snoc (v := (z : Int)) (by
            show (z : Int) = derZ (co xs) (j - 1) % (p : Int)
            unfold derZ
            rw [h1]
            have e : co xs j = (x : Int) := HX.out
            rw [e, ← hz, ← hm]
            push_cast
            rw [Int.mul_emod, Int.emod_emod, ← Int.mul_emod, Int.mul_comm]) (by omega) (by omega)
          rw [h1] at this
          exact this)
        have HO := Lib.hid hown
        have HC : Hid (∀ W W' : World, W.cell? ⟨w.heap.size, 0, none⟩ = some (.int .u32 (p : Int)) → Below W.heap.size W W' → w.heap.size < W.heap.size → W'.cell? ⟨w.heap.size, 0, none⟩ = some (.int .u32 (p : Int))) := Lib.hid fun W W' h1 h2 h3 => (h2.cell (p := ⟨w.heap.size, 0, none⟩) h3).trans h1
        have HDR : Hid (wr.drew.cell? ⟨w.heap.size, 0, none⟩ = some (.int .u32 (p : Int))) := Lib.hid b0
        clear hS hown hbw hm hz hk
        go_wp2
        refine wp_region_noPanic ?_
        refine wp_region_tail (fun (_ : Array Bool) (W : World) => W.cell? ⟨w.heap.size, 0, none⟩ = some (.int .u32 (p : Int))) (by kernel_rfl) (HDR.out) (fun hT => ?_)
        refine wpAnyT_take _ [] (i := 0) (oi := _) (v := ?_) (fun _ _ => Iff.rfl) (fun _ _ _ h => h) rfl (by kernel_rfl) (by kernel_rfl) (by kernel_rfl) (by kernel_rfl) (by kernel_rfl) (fun _ _ _ h => h) (by assumption) (Or.inl ⟨by kernel_rfl, ?_⟩) (fun hT => ?_)
        rotate_left 1
        · intro w hSw
          (try dsimp only at hSw)
          first | (go_simp; done) | (go_simp; with_reducible rfl)
        (try simp only [Act.put, List.getElem_toArray, List.getElem_cons_zero, List.setIfInBounds_toArray, List.set_cons_zero, List.set_cons_succ])
        refine wpAnyT_take _ [] (i := 1) (oi := _) (v := ?_) (fun _ _ => Iff.rfl) (fun _ _ _ h => h) rfl (by kernel_rfl) (by kernel_rfl) (by kernel_rfl) (by kernel_rfl) (by kernel_rfl) (fun _ _ _ h => h) (by assumption) (Or.inl ⟨by kernel_rfl, ?_⟩) (fun hT => ?_)
        rotate_left 1
        · intro w hSw
          (try dsimp only at hSw)
          first | (go_simp; done) | (go_simp; with_reducible rfl)
        (try simp only [Act.put, List.getElem_toArray, List.getElem_cons_succ, List.getElem_cons_zero, List.setIfInBounds_toArray, List.set_cons_zero, List.set_cons_succ])
        refine wpAnyT_take _ [] (i := 2) (oi := _) (v := ?_) (fun _ _ => Iff.rfl) (fun _ _ _ h => h) rfl (by kernel_rfl) (by kernel_rfl) (by kernel_rfl) (by kernel_rfl) (by kernel_rfl) (fun _ _ _ h => h) (by assumption) (Or.inl ⟨by kernel_rfl, ?_⟩) (fun hT => ?_)
        rotate_left 1
        · intro w hSw
          (try dsimp only at hSw)
          first | (go_simp; done) | (go_simp; with_reducible rfl)
        (try simp only [Act.put, List.getElem_toArray, List.getElem_cons_succ, List.getElem_cons_zero, List.setIfInBounds_toArray, List.set_cons_zero, List.set_cons_succ])
        refine wpAnyT_take _ [] (i := 3) (oi := _) (v := ?_) (fun _ _ => Iff.rfl) (fun _ _ _ h => h) rfl (by kernel_rfl) (by kernel_rfl) (by kernel_rfl) (by kernel_rfl) (by kernel_rfl) (fun _ _ _ h => h) (by assumption) (Or.inl ⟨by kernel_rfl, ?_⟩) (fun hT => ?_)
        rotate_left 1
        · intro w hSw
          (try dsimp only at hSw)
          first | (go_simp; done) | (go_simp; with_reducible rfl)
        (try simp only [Act.put, List.getElem_toArray, List.getElem_cons_succ, List.getElem_cons_zero, List.setIfInBounds_toArray, List.set_cons_zero, List.set_cons_succ])
        refine wpAnyT_take _ [] (i := 4) (oi := _) (v := ?_) (fun _ _ => Iff.rfl) (fun _ _ _ h => h) rfl (by kernel_rfl) (by kernel_rfl) (by kernel_rfl) (by kernel_rfl) (by kernel_rfl) (fun _ _ _ h => h) (by assumption) (Or.inl ⟨by kernel_rfl, ?_⟩) (fun hT => ?_)
        rotate_left 1
        · intro w hSw
          (try dsimp only at hSw)
          first | (go_simp; done) | (go_simp; with_reducible rfl)
        (try simp only [Act.put, List.getElem_toArray, List.getElem_cons_succ, List.getElem_cons_zero, List.setIfInBounds_toArray, List.set_cons_zero, List.set_cons_succ])
        refine wpAnyT_take _ [] (i := 5) (oi := _) (v := ?_) (fun _ _ => Iff.rfl) (fun _ _ _ h => h) rfl (by kernel_rfl) (by kernel_rfl) (by kernel_rfl) (by kernel_rfl) (by kernel_rfl) (fun _ _ _ h => h) (by assumption) (Or.inl ⟨by kernel_rfl, ?_⟩) (fun hT => ?_)
        rotate_left 1
        · intro w hSw
          (try dsimp only at hSw)
          first | (go_simp; done) | (go_simp; with_reducible rfl)
        (try simp only [Act.put, List.getElem_toArray, List.getElem_cons_succ, List.getElem_cons_zero, List.setIfInBounds_toArray, List.set_cons_zero, List.set_cons_succ])
        refine wpAnyT_take _ [] (i := 6) (oi := _) (v := ?_) (fun _ _ => Iff.rfl) (fun _ _ _ h => h) rfl (by kernel_rfl) (by kernel_rfl) (by kernel_rfl) (by kernel_rfl) (by kernel_rfl) (fun _ _ _ h => h) (by assumption) (Or.inl ⟨by kernel_rfl, ?_⟩) (fun hT => ?_)
        rotate_left 1
        · intro w hSw
          (try dsimp only at hSw)
          first | (go_simp; done) | (go_simp; with_reducible rfl)
        (try simp only [Act.put, List.getElem_toArray, List.getElem_cons_succ, List.getElem_cons_zero, List.setIfInBounds_toArray, List.set_cons_zero, List.set_cons_succ])
        refine wpAnyT_take _ [] (i := 7) (oi := _) (v := ?_) (fun _ _ => Iff.rfl) (fun _ _ _ h => h) rfl (by kernel_rfl) (by kernel_rfl) (by kernel_rfl) (by kernel_rfl) (by kernel_rfl) (fun _ _ _ h => h) (by assumption) (Or.inl ⟨by kernel_rfl, ?_⟩) (fun hT => ?_)
        rotate_left 1
        · intro w hSw
          (try dsimp only at hSw)
          first | (go_simp; done) | (go_simp; with_reducible rfl)
        (try simp only [Act.put, List.getElem_toArray, List.getElem_cons_succ, List.getElem_cons_zero, List.setIfInBounds_toArray, List.set_cons_zero, List.set_cons_succ])
        refine wpAnyT_take _ [] (i := 8) (oi := _) (v := ?_) (fun _ _ => Iff.rfl) (fun _ _ _ h => h) rfl (by kernel_rfl) (by kernel_rfl) (by kernel_rfl) (by kernel_rfl) (by kernel_rfl) (fun _ _ _ h => h) (by assumption) (Or.inl ⟨by kernel_rfl, ?_⟩) (fun hT => ?_)
        rotate_left 1
        · intro w hSw
          (try dsimp only at hSw)
          first | (go_simp; done) | (go_simp; with_reducible rfl)
        (try simp only [Act.put, List.getElem_toArray, List.getElem_cons_succ, List.getElem_cons_zero, List.setIfInBounds_toArray, List.set_cons_zero, List.set_cons_succ])
        refine wpAnyT_take _ [] (i := 9) (oi := _) (v := ?_) (fun _ _ => Iff.rfl) (fun _ _ _ h => h) rfl (by kernel_rfl) (by kernel_rfl) (by kernel_rfl) (by kernel_rfl) (by kernel_rfl) (fun _ _ _ h => h) (by assumption) (Or.inl ⟨by kernel_rfl, ?_⟩) (fun hT => ?_)
        rotate_left 1
        · intro w hSw
          (try dsimp only at hSw)
          first | (go_simp; done) | (go_simp; with_reducible rfl)
        (try simp only [Act.put, List.getElem_toArray, List.getElem_cons_succ, List.getElem_cons_zero, List.setIfInBounds_toArray, List.set_cons_zero, List.set_cons_succ])
        refine wpAnyT_one (i := 10) (by kernel_rfl) (oi := _) rfl (fun K hK => ?_)
        (try dsimp only [List.getElem_toArray, List.getElem_cons_succ, List.getElem_cons_zero])
        go_simp
        go_at_call 61
        (with_reducible refine (HM.out x m z _ (by omega) hmp HZ.out).mono ?_)
        rintro e w' ⟨rfl, rfl⟩
        go_wp2_with (fail)
        refine hK.out _ _ HDR.out (fun hT => ?_)
        clear hK K
        (try simp only [Act.put, List.getElem_toArray, List.getElem_cons_succ, List.getElem_cons_zero, List.setIfInBounds_toArray, List.set_cons_zero, List.set_cons_succ])
        refine wpAnyT_one (i := 11) (by kernel_rfl) (oi := _) rfl (fun K hK => ?_)
        (try dsimp only [List.getElem_toArray, List.getElem_cons_succ, List.getElem_cons_zero])
        go_simp
        refine hK.out _ _ (HC.out _ _ HDR.out ((Below.refl _ _).alloc (Nat.le_refl _) _) (by show w.heap.size < wr.heap.size; omega)) (fun hT => ?_)
        clear hK K
        (try simp only [Act.put, List.getElem_toArray, List.getElem_cons_succ, List.getElem_cons_zero, List.setIfInBounds_toArray, List.set_cons_zero, List.set_cons_succ])
        refine wpAnyT_one (i := 12) (by kernel_rfl) (oi := _) rfl (fun K hK => ?_)
        (try dsimp only [List.getElem_toArray, List.getElem_cons_succ, List.getElem_cons_zero])
        refine step_append1 _ (by rfl) _ _ 23 (by rfl) (w.heap.size + 1 + 1) 22 i0 4 Tryd.underlying23 hi0 hz0 hz1 hz2 u3 (j - 1) (S.map (Value.int .u32)) (by rfl) (own_below (own_drew HO.out) ((Below.refl _ _).alloc (Nat.le_refl _) _)) ⟨wr.heap.size, 0, none⟩ 1 (z : Int) (by rfl) (by simp [Addr.add]) (by unfold maxLen; omega) (by omega) (by simp; omega) (fun cv2 w2 hown2 hg2 => ?_)
        have HL2 : Hid (Laid w p (.slice (some ad) xs.length c) w2) := Lib.hid (Laid.grown (HL.out.up (((Below.refl _ _).drew.alloc (by simp; omega) _))) hg2 (own_below (own_drew HO.out) ((Below.refl _ _).alloc (Nat.le_refl _) _)))
        have HO2 : Hid (w2.ownsRow (w.heap.size + 1 + 1) 22 1 cv2 (j - 1 + 1) ((S ++ [(z : Int)]).map (Value.int .u32))) := Lib.hid (by rw [List.map_append]; exact hown2)
        have b0' := HL2.out.1.1
        clear hown2 hg2
        refine hK.out _ _ b0' (fun hT => ?_)
        clear hK K
        (try simp only [Act.put, List.setIfInBounds_toArray, List.set_cons_zero, List.set_cons_succ])
        refine wpAnyT_take _ [] (i := 13) (oi := _) (v := ?_) (fun _ _ => Iff.rfl) (fun _ _ _ h => h) rfl (by kernel_rfl) (by kernel_rfl) (by kernel_rfl) (by kernel_rfl) (by kernel_rfl) (fun _ _ _ h => h) (by assumption) (Or.inl ⟨by kernel_rfl, ?_⟩) (fun hT => ?_)
        rotate_left 1
        · intro w hSw
          (try dsimp only at hSw)
          first | (go_simp; done) | (go_simp; with_reducible rfl)
        (try simp only [Act.put, List.getElem_toArray, List.getElem_cons_succ, List.getElem_cons_zero, List.setIfInBounds_toArray, List.set_cons_zero, List.set_cons_succ])
        refine wpAnyT_done (by kernel_rfl) ?_ _
        refine NoPanic.normal ?_
        go_wp2
        go_roundw
        case rel => exact ⟨j + 1, _, by omega, by go_num, HS.out, by have := HO2.out; rw [show j - 1 + 1 = j + 1 - 1 by omega] at this; exact this, HL2.out⟩
        case measure => simp [intOf]; omega
    · obtain rfl : j = xs.length := by omega
      obtain ⟨A2, c2, rfl, g3, g4, g5⟩ := row_made hown
      have HG := Lib.hid g3.trim
      have hSl : S.length = xs.length - 1 := hS.1
      have HT : Hid (Calls Tryd.prog 63 #[.int .u32 (p : Int), .slice A2 S.length c2] wr fun e w' => e = .returned (.agg #[.int .u32 (p : Int), .slice A2 (trimZ S).length (trimZ S).length]) ∧ Below wr.heap.size wr w') := Lib.hid
        (trim_cap p A2 S c2 wr g3.kl hS.2.2 g4 (by omega))
      have HS : Hid (trimZ S = derP p xs) := Lib.hid hS.cano
      have i1 : ¬ (xs.length : Int) < (xs.length : Int) := by omega
      have HBW := Lib.hid hbw
      clear hown g3 g4 g5 hS hbw hSl
      go_wp2_with (go_at_call 63; (with_reducible refine HT.out.mono ?_); rintro e w2 ⟨rfl, hb2⟩; have HL2 := Lib.hid (HL.out.up (hb2.mono hsz)); have HG2 := Lib.hid (HG.out.below hb2); clear hb2; obtain ⟨⟨k0, k1⟩, ⟨v0, v1, m0, m1⟩, ⟨n0, n1⟩, hsz2, hbw2⟩ := HL2.out; have HBW2 := Lib.hid hbw2; clear hbw2)
      obtain ⟨q0, q1⟩ := cells_two (u := .int .u32 (p : Int)) (v := .slice A2 (trimZ S).length (trimZ S).length) m0 m1
      refine bodyPost_ret (v := .agg #[.int .u32 (p : Int), .slice A2 (trimZ S).length (trimZ S).length]) (by simp [results, Tryd.results26, go_sem, q0, q1]) rfl ?_
      have hg := HG2.out
      rw [HS.out] at hg ⊢
      exact madeP_end HBW2.out (by omega) hg (by omega) (Nat.le_refl _)
end Go.Proofs.YtlndchmpnnlacaaDoor
