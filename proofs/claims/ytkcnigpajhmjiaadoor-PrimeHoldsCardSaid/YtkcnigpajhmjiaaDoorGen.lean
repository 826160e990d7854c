/- prime.generates; and a map of numbers to truths that the call has made. -/
import Derived.Test.YtkcnigpajhmjiaaDoorMr
import Derived.Test.YtkcnigpajhmjiaaDoorPratt
import Derived.Maps.Own
import Derived.Maps.Views
import Derived.Maps.OwnSet
namespace Go.Proofs.YtkcnigpajhmjiaaDoor
open Go.RowKit Go.Maps
def genB (N G : Nat) : List Int → Bool
  | [] => true
  | q :: qs => if G ^ ((N - 1) / q.toNat) % N = 1 then false else genB N G qs
theorem genB_step {N G : Nat} {Q : List Int} {i q : Nat} (h : i < Q.length) (hq : Q.getD i 0 = (q : Int)) : genB N G (Q.drop i) = if G ^ ((N - 1) / q) % N = 1 then false else genB N G (Q.drop (i + 1)) := by
  rw [List.drop_eq_getElem_cons h]
  rw [getD_of_lt h] at hq
  show (if G ^ ((N - 1) / (Q[i]).toNat) % N = 1 then false else _) = _
  rw [hq, Int.toNat_natCast]
set_option maxHeartbeats 2000000 in
theorem generates_any (G N : Nat) (A : Option Addr) (c : Nat) (Q : List Int) (w : World) (hK : KL .u64 w w.heap.size A Q) (hl : Q.length ≤ 9223372036854775807) (hc : Q.length ≤ c) (hN : N ≤ 9223372036854775807) (hN2 : 2 ≤ N) (hG : G ≤ 9223372036854775807)
    (hq : ∀ i, i < Q.length → ∃ q : Nat, Q.getD i 0 = (q : Int) ∧ 2 ≤ q ∧ q ≤ 18446744073709551615) :
    Calls Tryd.prog 18 #[.int .u64 (G : Int), .int .u64 (N : Int), .slice A Q.length c] w fun e w' => e = .returned (.bool (genB N G Q)) ∧ ∃ n, w' = w.drewN n := by
  obtain ⟨res, hres⟩ : ∃ res, genB N G Q = res := ⟨_, rfl⟩
  obtain ⟨N1, hN1⟩ : ∃ N1, N - 1 = N1 := ⟨_, rfl⟩
  have hsub : (N : Int) - 1 = (N1 : Int) := by omega
  have HPW : Hid (∀ (n z : Nat) (W : World), n ≤ 9223372036854775807 → G ^ n % N = z → Calls Tryd.prog 17 #[.int .u64 (G : Int), .int .u64 (n : Int), .int .u64 (N : Int)] W fun e w' => e = .returned (.int .u64 (z : Int)) ∧ ∃ k, w' = W.drewN k) := Lib.hid fun n z W hn hz => by rw [← hz]; exact power_any G n N W (by omega) hN2 (by omega) (by omega)
  rw [hres]
  have HR : Hid (genB N G (Q.drop 0) = res) := Lib.hid (by rw [List.drop_zero]; exact hres)
  have HQ := Lib.hid hq
  have HK := Lib.hid hK
  have HN1 := Lib.hid hN1
  have hNi : (2 : Int) ≤ (N : Int) := by omega
  clear hres hq hK hN1
  go_enter Tryd.func18, Tryd.ntmps18
  go_wp2
  go_loopw [11] (fun i wr => (∃ k : Nat, i = .int .i64 k ∧ k ≤ Q.length ∧ Hid (genB N G (Q.drop k) = res)) ∧ Hid (∃ n, wr = w.drewN n)) (fun i _ => Q.length - (intOf i).toNat)
  case atStart => exact ⟨⟨0, rfl, Nat.zero_le _, HR⟩, Lib.hid ⟨0, rfl⟩⟩
  case round =>
    clear HR
    obtain ⟨⟨k, rfl, hk, HR⟩, HW⟩ := hrel
    by_cases hlt : k < Q.length
    · obtain ⟨q, hq, hq2, hql⟩ := HQ.out k hlt
      obtain ⟨ad, rfl, had, hcell⟩ := HK.out (by omega)
      have hc1 : wr.cell? (ad.add k) = some (.int .u64 (q : Int)) := by
        obtain ⟨n, hn⟩ := HW.out
        rw [hn]
        exact ((below_drewN (Below.refl w.heap.size w) n).cell (p := ad.add k) (by rw [block_of_add]; exact had)).trans (by rw [hcell k hlt, hq])
      have hR := HR.out
      rw [genB_step hlt hq, HN1.out] at hR
      obtain ⟨d, hd⟩ : ∃ d, N1 / q = d := ⟨_, rfl⟩
      have hdi : (N1 : Int) / (q : Int) = (d : Int) := by rw [← hd, Int.natCast_ediv]
      have hdl : d ≤ N1 := by rw [← hd]; exact Nat.div_le_self _ _
      obtain ⟨z, hz⟩ : ∃ z, G ^ d % N = z := ⟨_, rfl⟩
      have HZ := Lib.hid hz
      rw [hd, hz] at hR
      have hq0 : ((q : Int) == 0) = false := by rw [beq_eq_false_iff_ne]; omega
      have hki : (k : Int) < (Q.length : Int) := by omega
      clear hcell hq hd hz HR
      by_cases hz1 : z = 1
      · have hzi : ((z : Int) == 1) = true := by rw [hz1]; rfl
        have HT : Hid (false = res) := Lib.hid (by rw [if_pos hz1] at hR; exact hR)
        clear hR hz1
        go_wp2_with (go_at_call 17; (with_reducible refine (HPW.out d z _ (by omega) HZ.out).mono ?_); rintro e w' ⟨rfl, n2, rfl⟩)
        go_ret
        exact ⟨ret_bool HT.out, by obtain ⟨n, hn⟩ := HW.out; exact ⟨n + n2, by rw [hn, World.drewN_drewN]⟩⟩
      · have hzi : ((z : Int) == 1) = false := by rw [beq_eq_false_iff_ne]; omega
        have HN : Hid (genB N G (Q.drop (k + 1)) = res) := Lib.hid (by rw [if_neg hz1] at hR; exact hR)
        clear hR hz1
        go_wp2_with (go_at_call 17; (with_reducible refine (HPW.out d z _ (by omega) HZ.out).mono ?_); rintro e w' ⟨rfl, n2, rfl⟩; have HW2 : Hid (∃ n, wr.drewN n2 = w.drewN n) := Lib.hid (by (obtain ⟨n, hn⟩ := HW.out; exact ⟨n + n2, by rw [hn, World.drewN_drewN]⟩)))
        go_roundw
        case rel => exact ⟨⟨k + 1, by go_num, by omega, HN⟩, HW2⟩
        case measure => simp [intOf]; omega
    · have hki : ¬ (k : Int) < (Q.length : Int) := by omega
      have HT : Hid (true = res) := Lib.hid (by rw [← HR.out, List.drop_eq_nil_of_le (by omega)]; rfl)
      go_wp2
      go_ret
      exact ⟨ret_bool HT.out, HW.out⟩
/-- A map of numbers to truths, in block b, that says S; of at most n entries. -/
def MapS (w : World) (b n : Nat) (S : Nat → Bool) : Prop :=
  ∃ D : DataW Unit, w.ownsMap Tryd.prog 22 (plainElem Tryd.prog 4) b n D ∧ IsMap D ∧ ∀ q : Nat, q < 18446744073709551616 → D.atKey (.int .u64 (q : Int)) (.lit (.bool false)) = .lit (.bool (S q))
theorem u64_keyed : Keyed Tryd.prog 22 := int_keyed Tryd.underlying22
theorem u64_wf {q : Nat} (h : q < 18446744073709551616) : (Lit.int .u64 (q : Int)).wf = true := by
  rw [show Lit.wf (.int .u64 (q : Int)) = (decide (IntKind.u64.min ≤ (q : Int)) && decide ((q : Int) ≤ IntKind.u64.max)) from rfl, Bool.and_eq_true, decide_eq_true_iff, decide_eq_true_iff, show IntKind.u64.min = 0 by decide, show IntKind.u64.max = 18446744073709551615 by decide]
  omega
theorem bool_zero (w : World) : (zeroValue 4).run Tryd.prog w = .ok (.bool false) w := by kernel_rfl
theorem MapS.look {w : World} {b n : Nat} {S : Nat → Bool} (h : MapS w b n S) {q : Nat} (hq : q < 18446744073709551616) :
    (Instr.lookup 39 (.map (some b)) (.int .u64 (q : Int)) false).run Tryd.prog w = .ok (.bool (S q)) w := by
  obtain ⟨D, hown, _, hat⟩ := h
  obtain ⟨v, ps, hrun, hv⟩ := hown.lookup u64_keyed Tryd.underlying39 (bool_zero w) (plainElem_bool Tryd.underlying4 false) (keyOf_int_mk Tryd.underlying22 (u64_wf hq))
  rw [hat q hq] at hv
  have : v = .bool (S q) := by
    unfold plainElem at hv
    rw [Tryd.underlying4] at hv
    cases v <;> simp at hv
    simp [hv]
  rw [hrun, this]
theorem MapS.put {w : World} {b n : Nat} {S : Nat → Bool} (h : MapS w b n S) {q : Nat} (hq : q < 18446744073709551616) (hn : n ≤ 1000) :
    ∃ w', (Instr.mapUpdate 39 (.map (some b)) (.int .u64 (q : Int)) (.bool true)).run Tryd.prog w = .ok () w' ∧ MapS w' b (n + 1) (fun x => decide (x = q) || S x) ∧ w.grownBy w' (some b) := by
  obtain ⟨D, hown, hm, hat⟩ := h
  have hkey := keyOf_int_mk Tryd.underlying22 (u64_wf hq)
  obtain ⟨w', hrun, h1, h2⟩ := hown.update u64_keyed Tryd.underlying39 (by unfold maxLen; omega) hkey (plainElem_bool Tryd.underlying4 true)
  refine ⟨w', hrun, ⟨_, h1, h1.isMap, fun x hx => ?_⟩, h2⟩
  by_cases he : x = q
  · subst he
    rw [atKey_put_same hm (u64_keyed.key hkey)]
    simp
  · rw [atKey_put_other (by intro e; injection e with _ e; omega), hat x hx]
    simp [he]
theorem MapS.made (w : World) : MapS (w.alloc (.map #[] 0)) w.heap.size 0 (fun _ => false) :=
  ⟨.map [], World.ownsMap_made _ _ _ _, (World.ownsMap_made w Tryd.prog 22 (plainElem (H := Unit) Tryd.prog 4)).isMap, fun _ _ => rfl⟩
theorem MapS.up {w w' : World} {b n : Nat} {S : Nat → Bool} (h : MapS w b n S) (hb : b < w.heap.size) (hB : Below w.heap.size w w') : MapS w' b n S := by
  obtain ⟨D, ⟨es, clock, e1, e2⟩, hm, hat⟩ := h
  exact ⟨D, ⟨es, clock, (hB.block b hb).trans e1, e2⟩, hm, hat⟩
end Go.Proofs.YtkcnigpajhmjiaaDoor
