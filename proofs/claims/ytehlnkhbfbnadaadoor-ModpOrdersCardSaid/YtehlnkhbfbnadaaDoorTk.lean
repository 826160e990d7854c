/- Factor's closure, whatever it has found: no condition but the rows' being the call's own. -/
import Derived.Test.YtehlnkhbfbnadaaDoorKit
import Derived.Maps.AppendAt
import Derived.WalkMore
import Derived.Deep.RegionLaw
namespace Go.Proofs.YtehlnkhbfbnadaaDoor
open Go.RowKit
/-- The three variables of Factor that its closure bears. -/
def Vars (an ap at_ : Nat) (n : Int) (vP vT : Value) (w : World) : Prop :=
  (w.cell? ⟨an, 0, none⟩ = some (.int .u64 n) ∧ w.cell? ⟨ap, 0, none⟩ = some vP ∧ w.cell? ⟨at_, 0, none⟩ = some vT) ∧
  w.frozen? ⟨an, 0, none⟩ = false ∧ w.frozen? ⟨ap, 0, none⟩ = false ∧ w.frozen? ⟨at_, 0, none⟩ = false
/-- The primes and how often, in rows of the call's own that lie apart. -/
def Two (an ap at_ base : Nat) (m : Int) (ps ts : List Int) (w : World) : Prop :=
  ∃ vP vT, Vars an ap at_ m vP vT w ∧ w.ownsRow base 27 1 vP ps.length (ps.map (.int .u64)) ∧ w.ownsRow base 3 1 vT ts.length (ts.map (.int .i64)) ∧
    (∀ g, vP.ownBlock = some g → vT.ownBlock ≠ some g) ∧ base ≤ w.heap.size
theorem grown_of {w a w' : World} {row : Option Nat} (h : a.grownBy w' row) (hb : Below w.heap.size w a) : w.grownBy w' row :=
  ⟨h.os.trans hb.os, h.tape.trans hb.tape, h.output.trans hb.output, Nat.le_trans hb.size h.size, fun k hk hne => (h.block k (Nat.lt_of_lt_of_le hk hb.size) hne).trans (hb.block k hk)⟩
theorem own_up {w w' : World} {base : Nat} {e : TypeId} {v : Value} {n : Nat} {xs : List Value} (h : w.ownsRow base e 1 v n xs) (hb : Below w.heap.size w w') : w'.ownsRow base e 1 v n xs := by
  refine ⟨h.1, ?_⟩
  rcases h.2 with h0 | ⟨g, cap, cur, hv, h1, h2, h3⟩
  · exact .inl h0
  · exact .inr ⟨g, cap, cur, hv, h1, (hb.block g (Array.getElem?_eq_some_iff.1 h2).1).trans h2, h3⟩
theorem news_one {W : World} {g : Nat} {x : Value} (h : W.cell? ⟨g, 0, none⟩ = some x) : ∀ j u, [x][j]? = some u → W.cell? ((⟨g, 0, none⟩ : Addr).add j) = some u := by
  intro j u hu
  match j with
  | 0 => simp at hu; subst hu; simpa [Addr.add] using h
  | j + 1 => simp at hu
theorem grown_frozen {w w' : World} {row : Option Nat} (hg : w.grownBy w' row) {a : Addr} (h : w.frozen? a = false) (hlt : a.block < w.heap.size) (hne : some a.block ≠ row) : w'.frozen? a = false :=
  (World.frozen?_of_block (hg.block a.block hlt hne)).trans h
theorem u64_info : (Tryd.prog.info? 27).map (fun i => (i.zero, i.size, i.bytes)) = some (some (.int .u64 0), 1, 8) := by kernel_rfl
theorem i64_info : (Tryd.prog.info? 3).map (fun i => (i.zero, i.size, i.bytes)) = some (some (.int .i64 0), 1, 8) := by kernel_rfl

theorem own_setCell {w : World} {base : Nat} {e : TypeId} {v : Value} {n : Nat} {xs : List Value} (h : w.ownsRow base e 1 v n xs) {p : Addr} (hp : p.block < base) (u : Value) : (w.setCell p u).ownsRow base e 1 v n xs := by
  refine ⟨h.1, ?_⟩
  rcases h.2 with h0 | ⟨g, cap, cur, hv, h1, h2, h3⟩
  · exact .inl h0
  · exact .inr ⟨g, cap, cur, hv, h1, (Below.heap_setCell _ _ _ _ (by omega)).trans h2, h3⟩
theorem two_after {an ap at_ base g1 g2 n1' n2' c1 c2 : Nat} {m : Int} {ps ts : List Int} {vP vT : Value} {wo w1 w2 : World}
    (BP : ∀ k, vP.ownBlock = some k → base ≤ k ∧ k < wo.heap.size) (BT : ∀ k, vT.ownBlock = some k → base ≤ k ∧ k < wo.heap.size)
    (HD : ∀ g, vP.ownBlock = some g → vT.ownBlock ≠ some g)
    (G1 : wo.grownBy w1 vP.ownBlock) (O1 : w1.ownsRow base 27 1 (.slice (some ⟨g1, 0, none⟩) n1' c1) n1' (ps.map (.int .u64))) (A1 : vP.ownBlock = some g1 ∨ wo.heap.size ≤ g1) (L1 : g1 < w1.heap.size)
    (G2 : w1.grownBy w2 vT.ownBlock) (O2 : w2.ownsRow base 3 1 (.slice (some ⟨g2, 0, none⟩) n2' c2) n2' (ts.map (.int .i64))) (A2 : vT.ownBlock = some g2 ∨ w1.heap.size ≤ g2)
    (D1 : w2.cell? ⟨an, 0, none⟩ = some (.int .u64 m)) (D2 : w2.cell? ⟨ap, 0, none⟩ = some vP) (D3 : w2.cell? ⟨at_, 0, none⟩ = some vT)
    (E1 : w2.frozen? ⟨an, 0, none⟩ = false) (E2 : w2.frozen? ⟨ap, 0, none⟩ = false) (E3 : w2.frozen? ⟨at_, 0, none⟩ = false)
    (n1 : an ≠ ap) (n2 : an ≠ at_) (n3 : ap ≠ at_) (z2 : ap < base) (z3 : at_ < base) (hbase : base ≤ wo.heap.size) (ep : n1' = ps.length) (et : n2' = ts.length) :
    Two an ap at_ base m ps ts ((w2.setCell ⟨ap, 0, none⟩ (.slice (some ⟨g1, 0, none⟩) n1' c1)).setCell ⟨at_, 0, none⟩ (.slice (some ⟨g2, 0, none⟩) n2' c2)) ∧
      ∀ B, B ≤ an → B ≤ ap → B ≤ at_ → B ≤ base → Below B wo ((w2.setCell ⟨ap, 0, none⟩ (.slice (some ⟨g1, 0, none⟩) n1' c1)).setCell ⟨at_, 0, none⟩ (.slice (some ⟨g2, 0, none⟩) n2' c2)) := by
  subst ep
  subst et
  have o1 : some g1 ≠ vT.ownBlock := fun h => by
    rcases A1 with a | a
    · exact HD _ a h.symm
    · have := (BT g1 h.symm).2; omega
  have s1 := G1.size
  have s2 := G2.size
  refine ⟨⟨_, _, ⟨⟨?_, ?_, ?_⟩, ?_, ?_, ?_⟩, own_setCell (own_setCell (O1.kept G2 (.inr o1)) z2 _) z3 _, own_setCell (own_setCell O2 z2 _) z3 _, ?_, ?_⟩, fun B b1 b2 b3 b4 => ?_⟩
  · rw [World.cell?_setCell_other _ _ _ _ (by simp [n2]), World.cell?_setCell_other _ _ _ _ (by simp [n1])]; exact D1
  · rw [World.cell?_setCell_other _ _ _ _ (by simp [n3])]; exact World.cell?_setCell_same _ _ _ D2
  · exact World.cell?_setCell_same _ _ _ ((World.cell?_setCell_other _ _ _ _ (by simp [Ne.symm n3])).trans D3)
  · simpa using E1
  · simpa using E2
  · simpa using E3
  · intro g hg hg'
    simp only [Value.ownBlock, Option.some.injEq] at hg hg'
    subst hg
    subst hg'
    rcases A2 with a | a
    · exact o1 a.symm
    · omega
  · have : ((w2.setCell ⟨ap, 0, none⟩ (.slice (some ⟨g1, 0, none⟩) ps.length c1)).setCell ⟨at_, 0, none⟩ (.slice (some ⟨g2, 0, none⟩) ts.length c2)).heap.size = w2.heap.size := by simp [World.setCell]
    omega
  · refine ((((Below.refl B wo).grown G1 (by omega) fun k hk => ?_).grown G2 (by omega) fun k hk => ?_).setCell b2 _).setCell b3 _
    · have := (BP k hk).1; omega
    · have := (BT k hk).1; omega
theorem strip_next {m p k i q : Nat} (hi : i < k) (hp : 2 ≤ p) (hq : q = m * p ^ (k - i)) : q / p = m * p ^ (k - (i + 1)) ∧ q % p = 0 ∧ q / p ≤ q := by
  have e : k - i = (k - (i + 1)) + 1 := by omega
  rw [e, Nat.pow_succ, ← Nat.mul_assoc] at hq
  subst hq
  exact ⟨Nat.mul_div_cancel _ (by omega), Nat.mul_mod_left _ _, Nat.div_le_self _ _⟩
set_option maxHeartbeats 8000000 in
theorem take_any (p m k an ap at_ base : Nat) (ps ts : List Int) (w : World) (hT : Two an ap at_ base ((m * p ^ k : Nat) : Int) ps ts w) (lp : ps.length ≤ 100) (lt : ts.length ≤ 100)
    (n1 : an ≠ ap) (n2 : an ≠ at_) (n3 : ap ≠ at_) (z1 : an < base) (z2 : ap < base) (z3 : at_ < base)
    (hp : 2 ≤ p) (hpl : p ≤ 18446744073709551615) (hm : m % p ≠ 0) (hk : 0 < k) (hkl : k ≤ 64) (hml : m * p ^ k ≤ 18446744073709551615) :
    Calls Tryd.prog 39 #[.int .u64 p, .pointer (some ⟨an, 0, none⟩), .pointer (some ⟨ap, 0, none⟩), .pointer (some ⟨at_, 0, none⟩)] w fun e w' => e = .returned (.bool true) ∧ Two an ap at_ base m (ps ++ [(p : Int)]) (ts ++ [(k : Int)]) w' ∧ ∀ B, B ≤ an → B ≤ ap → B ≤ at_ → B ≤ base → Below B w w' := by
  obtain ⟨i0, hi0, hz0, hz1, hz2⟩ := info_parts u64_info
  obtain ⟨j0, hj0, hy0, hy1, hy2⟩ := info_parts i64_info
  obtain ⟨vP, vT, hv0, oP0, oT0, hd0, hbase0⟩ := hT
  have HV0 := Lib.hid hv0
  have HO0 := Lib.hid oP0
  have HT0 := Lib.hid oT0
  have HQ0 : Hid (m * p ^ k = m * p ^ (k - 0)) := Lib.hid (by rw [Nat.sub_zero])
  have HML := Lib.hid hml
  have HM := Lib.hid hm
  clear hv0 oP0 oT0 hml hm
  go_enter Tryd.func39, Tryd.ntmps39
  go_wp2
  go_loopw [6] (fun c wr => ∃ i q : Nat, c = .int .i64 i ∧ i ≤ k ∧ Vars an ap at_ q vP vT wr ∧ Hid (q = m * p ^ (k - i)) ∧ q ≤ 18446744073709551615 ∧
    wr.ownsRow base 27 1 vP ps.length (ps.map (.int .u64)) ∧ wr.ownsRow base 3 1 vT ts.length (ts.map (.int .i64)) ∧ wr.heap.size = w.heap.size ∧ ∀ B, B ≤ an → B ≤ ap → B ≤ at_ → B ≤ base → Below B w wr) (fun c _ => k - (intOf c).toNat)
  case atStart => exact ⟨0, m * p ^ k, rfl, Nat.zero_le _, HV0.out, HQ0, HML.out, HO0.out, HT0.out, rfl, fun B _ _ _ _ => Below.refl B w⟩
  case round =>
    clear HV0 HO0 HT0 HQ0 HML
    obtain ⟨i, q, rfl, hik, hv, HQ, hql, oP, oT, hsz, hbe⟩ := hrel
    by_cases hlt : i < k
    · obtain ⟨d1, d2, d3⟩ := strip_next hlt hp HQ.out
      obtain ⟨q', hq'⟩ : ∃ q', q / p = q' := ⟨_, rfl⟩
      rw [hq'] at d1 d3
      obtain ⟨⟨h1, h2, h3⟩, f1, f2, f3⟩ := hv
      have hp0 : ((p : Int) == 0) = false := by rw [beq_eq_false_iff_ne]; omega
      have hm0 : ((q : Int) % (p : Int) == 0) = true := by rw [← Int.natCast_emod, d2]; rfl
      have hdv : (q : Int) / (p : Int) = (q' : Int) := by rw [← hq', Int.natCast_ediv]
      have HV : Hid (Vars an ap at_ q' vP vT (wr.setCell ⟨an, 0, none⟩ (.int .u64 q'))) := Lib.hid
        ⟨⟨World.cell?_setCell_same _ _ _ h1, (World.cell?_setCell_other _ _ _ _ (by simp [n1])).trans h2, (World.cell?_setCell_other _ _ _ _ (by simp [n2])).trans h3⟩, by simpa using f1, by simpa using f2, by simpa using f3⟩
      have HS : Hid ((wr.setCell ⟨an, 0, none⟩ (.int .u64 q')).heap.size = w.heap.size) := Lib.hid (by simpa [World.setCell] using hsz)
      have HB : Hid (∀ B, B ≤ an → B ≤ ap → B ≤ at_ → B ≤ base → Below B w (wr.setCell ⟨an, 0, none⟩ (.int .u64 q'))) := Lib.hid fun B b1 b2 b3 b4 => (hbe B b1 b2 b3 b4).setCell b1 _
      have HO := Lib.hid (own_setCell oP z1 (p := ⟨an, 0, none⟩) (.int .u64 q'))
      have HT := Lib.hid (own_setCell oT z1 (p := ⟨an, 0, none⟩) (.int .u64 q'))
      have D1 := Lib.hid d1
      clear hsz hbe oP oT hq' d1 d2 hd0
      go_wp2
      go_roundw
      case rel => exact ⟨i + 1, q', by go_num, by omega, HV.out, D1, by omega, HO.out, HT.out, HS.out, HB.out⟩
      case measure => simp [intOf]; omega
    · have hqm : q = m := by have := HQ.out; rw [show k - i = 0 by omega, Nat.pow_zero, Nat.mul_one] at this; exact this
      obtain rfl : i = k := by omega
      clear HQ hlt hik
      have hd := hd0
      have hbase : base ≤ wr.heap.size := by omega
      have HBE := Lib.hid hbe
      have hm : (q : Int) % (p : Int) ≠ 0 := by rw [hqm, ← Int.natCast_emod]; have := HM.out; omega
      have HQM := Lib.hid hqm
      clear hsz hbe hbase0 hd0 hqm
      obtain ⟨⟨h1, h2, h3⟩, f1, f2, f3⟩ := hv
      have hp0 : ((p : Int) == 0) = false := by rw [beq_eq_false_iff_ne]; omega
      have hm0 : ((q : Int) % (p : Int) == 0) = false := by rw [beq_eq_false_iff_ne]; exact hm
      have hi0' : (0 : Int) < (i : Int) := by omega
      have bP := oP.lt
      have bT := oT.lt
      have q1 : some an ≠ vP.ownBlock := fun h => by have := (bP an h.symm).1; omega
      have q2 : some ap ≠ vP.ownBlock := fun h => by have := (bP ap h.symm).1; omega
      have q3 : some at_ ≠ vP.ownBlock := fun h => by have := (bP at_ h.symm).1; omega
      have r1 : some an ≠ vT.ownBlock := fun h => by have := (bT an h.symm).1; omega
      have r2 : some ap ≠ vT.ownBlock := fun h => by have := (bT ap h.symm).1; omega
      have r3 : some at_ ≠ vT.ownBlock := fun h => by have := (bT at_ h.symm).1; omega
      have q4 : some wr.heap.size ≠ vP.ownBlock := fun h => by have := (bP _ h.symm).2; omega
      have q5 : some (wr.heap.size + 1) ≠ vP.ownBlock := fun h => by have := (bP _ h.symm).2; omega
      have y1 : an < wr.heap.size := by omega
      have y2 : ap < wr.heap.size := by omega
      have y3 : at_ < wr.heap.size := by omega
      have y4 : an < wr.heap.size + 1 := by omega
      have y5 : ap < wr.heap.size + 1 := by omega
      have y6 : at_ < wr.heap.size + 1 := by omega
      have y7 : an < wr.heap.size + 1 + 1 := by omega
      have y8 : ap < wr.heap.size + 1 + 1 := by omega
      have y9 : at_ < wr.heap.size + 1 + 1 := by omega
      have BP := Lib.hid bP
      have BT := Lib.hid bT
      have HD := Lib.hid hd
      clear bP bT hd hm
      go_wp2
      have hD : vT.ownBlock = none ∨ vT.ownBlock ≠ vP.ownBlock := by
        rcases hv : vT.ownBlock with _ | g
        · exact .inl rfl
        · exact .inr fun h => HD.out g h.symm hv
      have HDD := Lib.hid hD
      clear hD
      go_region_law (first
        | (refine step_append_lies _ (by rfl) _ _ 47 (by rfl) base 27 i0 _ 1 8 Tryd.underlying47 hi0 hz0 hz1 hz2 rfl (by omega) vP ps.length (ps.map (.int .u64)) (by rfl) (own_up oP (by go_grown)) _ 1 1 [.int .u64 p] (by rfl) (by rfl) (news_one (by go_cell)) (by simp [Value.oneCell']) (by omega) (by unfold maxLen; omega) (by omega) (Nat.le_trans hbase (by first | (simp; done) | (simp; omega))) _ rfl ?_; intro g1 c1 w1 hown1 hgrow1 hat1 hlt1; have C1 := hgrow1.cell (a := ⟨an, 0, none⟩) (v := .int .u64 q) (by (go_cell; done)) q1; have F1 := grown_frozen hgrow1 (a := ⟨an, 0, none⟩) (by (go_cell; done)) (by first | (simp; done) | (simp; omega) | omega) q1; have C2 := hgrow1.cell (a := ⟨ap, 0, none⟩) (v := vP) (by (go_cell; done)) q2; have F2 := grown_frozen hgrow1 (a := ⟨ap, 0, none⟩) (by (go_cell; done)) (by first | (simp; done) | (simp; omega) | omega) q2; have C3 := hgrow1.cell (a := ⟨at_, 0, none⟩) (v := vT) (by (go_cell; done)) q3; have F3 := grown_frozen hgrow1 (a := ⟨at_, 0, none⟩) (by (go_cell; done)) (by first | (simp; done) | (simp; omega) | omega) q3; have C4 := Lib.hid (fun h => hgrow1.cell (a := ⟨wr.heap.size, 0, none⟩) (v := .int .i64 i) h q4); have C5 := Lib.hid (fun h => hgrow1.cell (a := ⟨wr.heap.size + 1, 0, none⟩) (v := .int .i64 i) h q5); have z := (Nat.le_trans (show wr.heap.size ≤ _ from (by first | (simp; done) | (simp; omega) | omega)) hgrow1.size : wr.heap.size ≤ w1.heap.size); have Z1 := Lib.hid z; have v1 : an < w1.heap.size := (by omega); have v2 : ap < w1.heap.size := (by omega); have v3 : at_ < w1.heap.size := (by omega); have v4 : an < w1.heap.size + 1 := (by omega); have v5 : ap < w1.heap.size + 1 := (by omega); have v6 : at_ < w1.heap.size + 1 := (by omega); clear z; have G1 := Lib.hid (grown_of (w := wr) hgrow1 (by go_grown)); have O1 := Lib.hid hown1; have T1 := Lib.hid ((own_up oT (by go_grown)).kept hgrow1 HDD.out); have A1 := Lib.hid (hat1.imp id (fun h => (by first | (rw [h]; simp; done) | (rw [h]; simp; omega)) : g1 = _ → wr.heap.size ≤ g1)); have L1 := Lib.hid hlt1; clear hgrow1 hown1 hat1 hlt1)
        | (refine step_append_lies _ (by rfl) _ _ 48 (by rfl) base 3 j0 _ 1 8 Tryd.underlying48 hj0 hy0 hy1 hy2 rfl (by omega) vT ts.length (ts.map (.int .i64)) (by rfl) (own_up T1.out (by go_grown)) _ 1 1 [.int .i64 i] (by rfl) (by rfl) (by first | (refine news_one ?_; go_cell; done) | (refine news_one (C4.out ?_); go_cell; done) | (refine news_one (C5.out ?_); go_cell; done)) (by simp [Value.oneCell']) (by omega) (by unfold maxLen; omega) (by omega) (Nat.le_trans hbase (by first | exact Z1.out | (have := Z1.out; simp; omega))) _ rfl ?_; intro g2 c2 w2 hown2 hgrow2 hat2 hlt2; have D1 := hgrow2.cell (a := ⟨an, 0, none⟩) (v := .int .u64 q) (by (go_cell; done)) r1; have E1 := grown_frozen hgrow2 (a := ⟨an, 0, none⟩) (by (go_cell; done)) (by first | (simp; done) | (simp; omega) | omega) r1; have D2 := hgrow2.cell (a := ⟨ap, 0, none⟩) (v := vP) (by (go_cell; done)) r2; have E2 := grown_frozen hgrow2 (a := ⟨ap, 0, none⟩) (by (go_cell; done)) (by first | (simp; done) | (simp; omega) | omega) r2; have D3 := hgrow2.cell (a := ⟨at_, 0, none⟩) (v := vT) (by (go_cell; done)) r3; have E3 := grown_frozen hgrow2 (a := ⟨at_, 0, none⟩) (by (go_cell; done)) (by first | (simp; done) | (simp; omega) | omega) r3; have z := (Nat.le_trans (show w1.heap.size ≤ _ from (by first | (simp; done) | (simp; omega) | omega)) hgrow2.size : w1.heap.size ≤ w2.heap.size); have Z2 := Lib.hid z; have x1 : an < w2.heap.size := (by omega); have x2 : ap < w2.heap.size := (by omega); have x3 : at_ < w2.heap.size := (by omega); clear z; have G2 := Lib.hid (grown_of (w := w1) hgrow2 (by go_grown)); have O2 := Lib.hid hown2; have A2 := Lib.hid (hat2.imp id (fun h => (by first | (rw [h]; simp; done) | (rw [h]; simp; omega)) : g2 = _ → w1.heap.size ≤ g2)); have L2 := Lib.hid hlt2; clear hgrow2 hown2 hat2 hlt2))
      all_goals
        go_wp2
        go_ret
        refine ⟨rfl, ?_⟩
        have H := two_after (ps := ps ++ [(p : Int)]) (ts := ts ++ [(i : Int)]) BP.out BT.out HD.out G1.out (by rw [List.map_append]; exact O1.out) A1.out L1.out G2.out (by rw [List.map_append]; exact O2.out) A2.out D1 D2 D3 E1 E2 E3 n1 n2 n3 z2 z3 hbase (by simp) (by simp)
        rw [HQM.out] at H
        exact ⟨H.1, fun B b1 b2 b3 b4 => (HBE.out B b1 b2 b3 b4).trans (H.2 B b1 b2 b3 b4)⟩
set_option maxHeartbeats 1000000 in
theorem take_none (p n an ap at_ base : Nat) (ps ts : List Int) (w : World) (hT : Two an ap at_ base (n : Int) ps ts w) (hp : 2 ≤ p) (hpl : p ≤ 18446744073709551615) (hn : n ≤ 18446744073709551615) (hm : n % p ≠ 0) :
    Calls Tryd.prog 39 #[.int .u64 p, .pointer (some ⟨an, 0, none⟩), .pointer (some ⟨ap, 0, none⟩), .pointer (some ⟨at_, 0, none⟩)] w fun e w' => e = .returned (.bool false) ∧ w = w' := by
  obtain ⟨vP, vT, ⟨⟨h1, h2, h3⟩, f1, f2, f3⟩, oP0, oT0, hd0, hbase0⟩ := hT
  have hp0 : ((p : Int) == 0) = false := by rw [beq_eq_false_iff_ne]; omega
  have hm0 : ((n : Int) % (p : Int) == 0) = false := by rw [beq_eq_false_iff_ne, ← Int.natCast_emod]; omega
  clear oP0 oT0 hd0 hm
  go_enter Tryd.func39, Tryd.ntmps39
  go_wp2
  go_loop [6] (fun c => c = .int .i64 0) (fun c => 1 - (intOf c).toNat)
  case atStart => rfl
  case round =>
    obtain rfl := hrel
    go_wp2
    go_ret
    exact ⟨rfl, rfl⟩
end Go.Proofs.YtehlnkhbfbnadaaDoor
