/- prime.Is below 2^63: Miller and Rabin's test to the bases 2 to 37, as it is run; and that it passes a prime. -/
import Derived.Test.YtehlnkhbfbnadaaDoorMr
import Derived.Outline
import Derived.Deep.LoopGhost
namespace Go.Proofs.YtehlnkhbfbnadaaDoor
open Go.RowKit
def bases : List Nat := [2, 3, 5, 7, 11, 13, 17, 19, 23, 29, 31, 37]
def divB (n : Nat) : List Nat → Option Bool
  | [] => none
  | b :: bs => if n % b = 0 then some (decide (n = b)) else divB n bs
def mrOne (n o t b : Nat) : Bool := decide (b ^ o % n = 1) || mrRow n t (b ^ o % n)
def mrAll (n o t : Nat) : List Nat → Bool
  | [] => true
  | b :: bs => if mrOne n o t b = true then mrAll n o t bs else false
/-- What Is says of n, n - 1 being o times 2 to the t. -/
def isMR (n o t : Nat) : Bool := if n < 2 then false else (divB n bases).getD (mrAll n o t bases)
theorem bases_at : ∀ i, i < 12 → bases.drop i = bases.getD i 0 :: bases.drop (i + 1) ∧ 2 ≤ bases.getD i 0 ∧ bases.getD i 0 ≤ 37 := by decide
theorem index_at : ∀ (i : Nat), i < 12 → ∀ W : World, (Instr.index 55 (.agg #[.int .u64 2, .int .u64 3, .int .u64 5, .int .u64 7, .int .u64 11, .int .u64 13, .int .u64 17, .int .u64 19, .int .u64 23, .int .u64 29, .int .u64 31, .int .u64 37]) (.int .i64 (i : Int))).run Tryd.prog W = .ok (.int .u64 ((bases.getD i 0 : Nat) : Int)) W
  | 0, _, _ => by kernel_rfl
  | 1, _, _ => by kernel_rfl
  | 2, _, _ => by kernel_rfl
  | 3, _, _ => by kernel_rfl
  | 4, _, _ => by kernel_rfl
  | 5, _, _ => by kernel_rfl
  | 6, _, _ => by kernel_rfl
  | 7, _, _ => by kernel_rfl
  | 8, _, _ => by kernel_rfl
  | 9, _, _ => by kernel_rfl
  | 10, _, _ => by kernel_rfl
  | 11, _, _ => by kernel_rfl
  | n + 12, h, _ => absurd h (by omega)
set_option maxHeartbeats 8000000 in
theorem is_gen (n o t : Nat) (w : World) (hg : TabG w) (hn : n ≤ 9223372036854775807) (ho : n - 1 = o * 2 ^ t) (ho1 : o % 2 = 1) (hn2 : 2 ≤ n) :
    Calls Tryd.prog 36 #[.int .u64 (n : Int)] w fun e w' => e = .returned (.bool (isMR n o t)) ∧ Below w.heap.size w w' := by
  obtain ⟨res, hres⟩ : ∃ res, isMR n o t = res := ⟨_, rfl⟩
  have hres2 : (divB n (bases.drop 0)).getD (mrAll n o t bases) = res := by rw [← hres]; unfold isMR; rw [if_neg (by omega), List.drop_zero]
  rw [hres]
  obtain ⟨n1, hn1⟩ : ∃ n1, n - 1 = n1 := ⟨_, rfl⟩
  rw [hn1] at ho
  have hsub : (n : Int) - 1 = (n1 : Int) := by omega
  have hn1p : 0 < n1 := by omega
  have ht64 : t < 64 := by
    rcases Nat.lt_or_ge t 64 with h | h
    · exact h
    · have h1 := Nat.pow_le_pow_right (show 0 < 2 by omega) h
      have h2 : 1 * 2 ^ t ≤ o * 2 ^ t := Nat.mul_le_mul_right _ (by omega)
      omega
  have hol : o ≤ n1 := by rw [ho]; exact Nat.le_mul_of_pos_right _ (Nat.pow_pos (by omega))
  have hsh : (n1 : Int) / 2 ^ t = (o : Int) := by
    rw [ho, Int.natCast_mul, Int.natCast_pow]
    exact Int.mul_ediv_cancel _ (by have := Nat.pow_pos (n := t) (show 0 < 2 by omega); rw [← Int.natCast_pow]; omega)
  have HTZ : Hid (∀ W : World, TabG W → Calls Tryd.prog 41 #[.int .u64 (n1 : Int)] W fun e w' => e = .returned (.int .i64 (t : Int)) ∧ W = w') := Lib.hid fun W h => tz64 n1 o t W h ho ho1 (by omega)
  have HPW : Hid (∀ (b z : Nat) (W : World), b ≤ 37 → b ^ o % n = z → Calls Tryd.prog 42 #[.int .u64 (b : Int), .int .u64 (o : Int), .int .u64 (n : Int)] W fun e w' => e = .returned (.int .u64 (z : Int)) ∧ ∃ k, w' = W.drewN k) := Lib.hid fun b z W hb hz => by rw [← hz]; exact power_any b o n W (by omega) hn2 (by omega) (by omega)
  have HTI : Hid (∀ (x z : Nat) (W : World), x < n → x * x % n = z → Calls Tryd.prog 43 #[.int .u64 (x : Int), .int .u64 (x : Int), .int .u64 (n : Int)] W fun e w' => e = .returned (.int .u64 (z : Int)) ∧ ∃ k, w' = W.drewN k) := Lib.hid fun x z W hx hz => by rw [← hz]; exact times_any x x n W (by omega) hx hx
  have HR := Lib.hid hres2
  have HG := Lib.hid hg
  have HIX := Lib.hid index_at
  have HN1 := Lib.hid hn1
  have c1 : ¬ (n : Int) < 2 := by omega
  have hni : (n : Int) ≤ 9223372036854775807 := by omega
  have HSH := Lib.hid hsh
  have HSUB := Lib.hid hsub
  clear hsh hsub
  have ct0 : (0 : Int) ≤ (t : Int) := by omega
  have ct1 : (t : Int) ≤ 63 := by omega
  clear hres hres2 ho ho1 hg hol hn1
  go_enter Tryd.func36, Tryd.ntmps36
  go_wp2
  go_step3
  go_wp2
  go_loop [19] (fun i => ∃ k : Nat, i = .int .i64 k ∧ k ≤ 12 ∧ Hid ((divB n (bases.drop k)).getD (mrAll n o t bases) = res)) (fun i => 12 - (intOf i).toNat)
  case atStart => exact ⟨0, rfl, by omega, HR⟩
  case round =>
    clear HR
    obtain ⟨k, rfl, hk, HR⟩ := hrel
    by_cases hlt : k < 12
    · obtain ⟨b1, b2, b3⟩ := bases_at k hlt
      have hix := HIX.out k hlt
      have hR := HR.out
      rw [b1] at hR
      obtain ⟨b, hb⟩ : ∃ b, bases.getD k 0 = b := ⟨_, rfl⟩
      rw [hb] at hix hR b2 b3
      have hb0 : ((b : Int) == 0) = false := by rw [beq_eq_false_iff_ne]; omega
      have hlti : (k : Int) < 12 := by omega
      by_cases hd : n % b = 0
      · have hdi : ((n : Int) % (b : Int) == 0) = true := by rw [← Int.natCast_emod, hd]; rfl
        have hS : decide (n = b) = res := by
          have : divB n (b :: bases.drop (k + 1)) = some (decide (n = b)) := by show (if n % b = 0 then _ else _) = _; rw [if_pos hd]
          rw [this] at hR
          exact hR
        have HS := Lib.hid hS
        by_cases hnb : n = b
        · have hnbi : ((n : Int) == (b : Int)) = true := by rw [hnb]; simp
          have HT : Hid (true = res) := Lib.hid (by rw [← hS]; simp [hnb])
          clear hR HR b1 hb hd hS HS hnb
          go_wp2
          (try rw [Exit.noGoto_ret])
          go_ret
          exact ⟨ret_bool HT.out, by go_grown⟩
        · have hnbi : ((n : Int) == (b : Int)) = false := by rw [beq_eq_false_iff_ne]; omega
          have HT : Hid (false = res) := Lib.hid (by rw [← hS]; simp [hnb])
          clear hR HR b1 hb hd hS HS hnb
          go_wp2
          (try rw [Exit.noGoto_ret])
          go_ret
          exact ⟨ret_bool HT.out, by go_grown⟩
      · have hdi : ((n : Int) % (b : Int) == 0) = false := by rw [beq_eq_false_iff_ne, ← Int.natCast_emod]; omega
        have HS : Hid ((divB n (bases.drop (k + 1))).getD (mrAll n o t bases) = res) := Lib.hid (by
          have : divB n (b :: bases.drop (k + 1)) = divB n (bases.drop (k + 1)) := by show (if n % b = 0 then _ else _) = _; rw [if_neg hd]
          rw [this] at hR
          exact hR)
        clear hR HR b1 hb hd
        go_wp2
        go_round
        case rel => exact ⟨k + 1, by go_num, by omega, HS⟩
        case measure => simp [intOf]; omega
    · obtain rfl : k = 12 := by omega
      have HM : Hid (mrAll n o t (bases.drop 0) = res) := HR
      clear HR hlt
      have hsub := HSUB.out
      have hsh := HSH.out
      go_wp2_with (go_at_call 41; (with_reducible refine (HTZ.out _ (HG.out.up (by go_grown))).mono ?_); rintro e w' ⟨rfl, rfl⟩)
      go_step3
      go_wp2
      have HB0 : Hid (∀ o : Obj, Below w.heap.size w (w.alloc o)) := Lib.hid fun o => (Below.refl _ _).alloc (Nat.le_refl _) o
      go_loopg [39] 12 (fun g i wr => ∃ k : Nat, k + g = 12 ∧ i = .int .i64 k ∧ Hid (mrAll n o t (bases.drop k) = res) ∧ Hid (Below w.heap.size w wr))
      case atStart => exact ⟨0, by omega, rfl, HM, Lib.hid (HB0.out _)⟩
      case round =>
        obtain ⟨k, hkg, rfl, HR, HB⟩ := hrel
        obtain ⟨wo, rfl⟩ : ∃ wo : World, wo = wr := ⟨_, rfl⟩
        cases gk with
        | zero =>
          have hge : ¬ (k : Int) < 12 := by omega
          have HT : Hid (true = res) := Lib.hid (by rw [← HR.out, List.drop_eq_nil_of_le (by show 12 ≤ k; omega)]; rfl)
          go_wp2
          (try rw [Exit.noGoto_ret])
          go_ret
          exact ⟨ret_bool HT.out, HB.out⟩
        | succ g =>
          have hlt : k < 12 := by omega
          have hlti : (k : Int) < 12 := by omega
          obtain ⟨b1, b2, b3⟩ := bases_at k hlt
          have hix := HIX.out k hlt
          have hR := HR.out
          rw [b1] at hR
          obtain ⟨b, hb⟩ : ∃ b, bases.getD k 0 = b := ⟨_, rfl⟩
          rw [hb] at hix hR b2 b3
          obtain ⟨z, hz⟩ : ∃ z, b ^ o % n = z := ⟨_, rfl⟩
          have hzl : z < n := by rw [← hz]; exact Nat.mod_lt _ (by omega)
          have HZ := Lib.hid hz
          have hR2 : (if (decide (z = 1) || mrRow n t z) = true then mrAll n o t (bases.drop (k + 1)) else false) = res := by
            rw [← hz]; exact hR
          by_cases hz1 : z = 1
          · have HN : Hid (mrAll n o t (bases.drop (k + 1)) = res) := Lib.hid (by rw [← hR2, if_pos (by simp [hz1])])
            have hzi : ((z : Int) == 1) = true := by rw [hz1]; rfl
            clear hR hR2 hz hz1 b1 hb HR
            go_wp2_with (go_at_call 42; (with_reducible refine (HPW.out b z _ b3 HZ.out).mono ?_); rintro e w' ⟨rfl, n2, rfl⟩; have HB2 := Lib.hid (below_drewN HB.out n2))
            go_roundg g
            case measure => omega
            case rel => exact ⟨k + 1, by omega, by go_num, HN, HB2⟩
          · have hzi : ((z : Int) == 1) = false := by rw [beq_eq_false_iff_ne]; omega
            have HR2 : Hid ((if mrRow n t z = true then mrAll n o t (bases.drop (k + 1)) else false) = res) := Lib.hid (by rw [← hR2]; simp [hz1])
            clear hR hR2 hz hz1 b1 hb HR
            go_wp2_with (go_at_call 42; (with_reducible refine (HPW.out b z _ b3 HZ.out).mono ?_); rintro e w' ⟨rfl, n2, rfl⟩; have HB2 := Lib.hid (below_drewN HB.out n2))
            go_loopg [49, 10] t (fun g2 c x wy => ∃ j y : Nat, j + g2 = t ∧ c = .int .i64 j ∧ x = .int .u64 y ∧ y < n ∧ Hid (mrRow n (t - j) y = mrRow n t z) ∧ Hid (Below w.heap.size w wy))
            case atStart => exact ⟨0, z, by omega, rfl, rfl, hzl, Lib.hid (by rw [Nat.sub_zero]), HB2⟩
            case round =>
              obtain ⟨j, y, hjg, rfl, rfl, hyl, HY, HBY⟩ := hrel
              obtain ⟨wi, rfl⟩ : ∃ wi : World, wi = wr := ⟨_, rfl⟩
              cases gk with
              | zero =>
                have hjz : ¬ (j : Int) < (t : Int) := by omega
                have HF : Hid (mrRow n t z = false) := Lib.hid (by rw [← HY.out, show t - j = 0 by omega]; rfl)
                have HT : Hid (false = res) := Lib.hid (by rw [← HR2.out, HF.out]; rfl)
                clear hix
                go_wp2
                (try rw [Exit.noGoto_ret])
                go_ret
                exact ⟨ret_bool HT.out, HBY.out⟩
              | succ g2 =>
                have hjz : (j : Int) < (t : Int) := by omega
                have hstep : (if y = n1 then true else mrRow n (t - (j + 1)) (y * y % n)) = mrRow n t z := by
                  rw [← HY.out, show t - j = (t - (j + 1)) + 1 by omega]
                  show _ = (if y = n - 1 then true else mrRow n (t - (j + 1)) (y * y % n))
                  rw [HN1.out]
                by_cases hy1 : y = n1
                · have HN : Hid (mrAll n o t (bases.drop (k + 1)) = res) := Lib.hid (by
                    rw [if_pos hy1] at hstep
                    rw [← HR2.out, ← hstep]; rfl)
                  have hyi : ((y : Int) == (n1 : Int)) = true := by rw [hy1]; simp
                  clear hstep hix hy1
                  go_wp2
                  go_roundg g
                  case measure => omega
                  case rel => exact ⟨k + 1, by omega, by go_num, HN, HBY⟩
                · have HN : Hid (mrRow n (t - (j + 1)) (y * y % n) = mrRow n t z) := Lib.hid (by rw [if_neg hy1] at hstep; exact hstep)
                  obtain ⟨y2, hy2⟩ : ∃ y2, y * y % n = y2 := ⟨_, rfl⟩
                  have hy2l : y2 < n := by rw [← hy2]; exact Nat.mod_lt _ (by omega)
                  rw [hy2] at HN
                  have HY2 := Lib.hid hy2
                  have hyi : ((y : Int) == (n1 : Int)) = false := by rw [beq_eq_false_iff_ne]; omega
                  clear hstep hix hy1 hy2
                  go_wp2_with (go_at_call 43; (with_reducible refine (HTI.out y y2 _ hyl HY2.out).mono ?_); rintro e w' ⟨rfl, n3, rfl⟩; have HB3 := Lib.hid (below_drewN HBY.out n3))
                  go_roundg g2
                  case measure => omega
                  case rel => exact ⟨j + 1, y2, by omega, by go_num, rfl, hy2l, HN, HB3⟩
theorem is_low (n : Nat) (hn : n < 2) (w : World) : Calls Tryd.prog 36 #[.int .u64 (n : Int)] w fun e w' => e = .returned (.bool false) ∧ Below w.heap.size w w' := by
  have h : (n : Int) < 2 := by omega
  go_enter Tryd.func36, Tryd.ntmps36
  go_wp2
  (try go_step3)
  (try go_wp2)
  (try rw [Exit.noGoto_ret])
  go_ret
  exact ⟨rfl, by go_grown⟩
/-- A prime passes. -/
theorem divB_prime {p : Nat} (h : PrimeN p) : ∀ l : List Nat, (∀ b ∈ l, 2 ≤ b) → divB p l = none ∧ (∀ b ∈ l, p % b ≠ 0) ∨ divB p l = some true
  | [], _ => .inl ⟨rfl, fun b hb => by cases hb⟩
  | b :: bs, hl => by
    unfold divB
    by_cases hd : p % b = 0
    · right
      rw [if_pos hd]
      have hb := hl b (by simp)
      rcases h.2 b (Nat.dvd_of_mod_eq_zero hd) with h1 | h1
      · omega
      · simp [h1]
    · rw [if_neg hd]
      rcases divB_prime h bs (fun x hx => hl x (by simp [hx])) with ⟨h1, h2⟩ | h1
      · left
        refine ⟨h1, fun x hx => ?_⟩
        rcases List.mem_cons.1 hx with rfl | hx
        · exact hd
        · exact h2 x hx
      · exact .inr h1
theorem mrAll_prime {p o t : Nat} (h : PrimeN p) (he : p - 1 = o * 2 ^ t) : ∀ l : List Nat, (∀ b ∈ l, b % p ≠ 0) → mrAll p o t l = true
  | [], _ => rfl
  | b :: bs, hl => by
    unfold mrAll
    have h1 : mrOne p o t b = true := by
      unfold mrOne
      rcases h.mr_passes (hl b (by simp)) he with h2 | h2
      · simp [h2]
      · simp [h2]
    rw [if_pos h1]
    exact mrAll_prime h he bs fun x hx => hl x (by simp [hx])
theorem isMR_prime {p o t : Nat} (h : PrimeN p) (he : p - 1 = o * 2 ^ t) : isMR p o t = true := by
  unfold isMR
  rw [if_neg (by have := h.1; omega)]
  rcases divB_prime h bases (by decide) with ⟨h1, h2⟩ | h1
  · rw [h1]
    refine mrAll_prime h he bases fun b hb e => ?_
    have hd := Nat.dvd_of_mod_eq_zero e
    have hp := h2 b hb
    have hbp : ∀ b ∈ bases, ∀ d, d ∣ b → d = 1 ∨ d = b := by
      intro b hb d hd
      have hle := Nat.le_of_dvd ((show ∀ b ∈ bases, 0 < b by decide) b hb) hd
      have : ∀ b ∈ bases, ∀ d, d ≤ b → b % d = 0 → d = 1 ∨ d = b := by decide
      exact this b hb d hle (Nat.mod_eq_zero_of_dvd hd)
    rcases hbp b hb p hd with h3 | h3
    · have := h.1; omega
    · rw [h3, Nat.mod_self] at hp
      exact hp rfl
  · rw [h1]; rfl
theorem is_prime (p : Nat) (w : World) (hg : TabG w) (h : PrimeN p) (hp : p ≤ 9223372036854775807) : Calls Tryd.prog 36 #[.int .u64 (p : Int)] w fun e w' => e = .returned (.bool true) ∧ Below w.heap.size w w' := by
  have h2 := h.1
  obtain ⟨o, t, he, ho⟩ := twos_of (p - 1) (by omega)
  have := is_gen p o t w hg hp he ho h2
  rwa [isMR_prime h he] at this
end Go.Proofs.YtehlnkhbfbnadaaDoor
