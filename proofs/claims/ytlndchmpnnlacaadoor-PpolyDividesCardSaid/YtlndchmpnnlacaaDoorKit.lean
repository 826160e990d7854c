/- Numbers by digits: plain mathematics. Words for slices of numbers of one kind that read as lists, and small lemmas: no condition. -/
import Derived.Test.YtlndchmpnnlacaaDoorRows
import Derived.WalkKit
import Derived.WalkSpells
import Derived.WalkLawsBesides
import Derived.Handy
import Derived.Lib.Hide
import Derived.Deep.AppendLies
import Derived.Deep.Draws
import Derived.Deep.QuietTactic
import Derived.Deep.RegionHeld3
import Derived.BigQuiet
import Derived.Laws.EntriesVeiled
namespace Go.Proofs.YtlndchmpnnlacaaDoor

/-- The number that a list of digits is, the least first, by the base b. -/
def val (b : Nat) : List Int → Nat
  | [] => 0
  | x :: xs => x.toNat + b * val b xs
/-- Each is a digit. -/
def Dig (b : Nat) (xs : List Int) : Prop := ∀ x ∈ xs, 0 ≤ x ∧ x < (b : Int)

section
variable {b : Nat} {xs ys : List Int}
theorem Dig.nil_ : Dig b [] := fun x h => by cases h
theorem Dig.cons_ {x : Int} (h0 : 0 ≤ x) (h1 : x < (b : Int)) (h : Dig b xs) : Dig b (x :: xs) := fun y hy => by
  rcases List.mem_cons.1 hy with rfl | hy
  · exact ⟨h0, h1⟩
  · exact h y hy
theorem Dig.head_ {x : Int} (h : Dig b (x :: xs)) : 0 ≤ x ∧ x < (b : Int) := h x (by simp)
theorem Dig.tail_ {x : Int} (h : Dig b (x :: xs)) : Dig b xs := fun y hy => h y (by simp [hy])
theorem Dig.append_ (h : Dig b xs) (h' : Dig b ys) : Dig b (xs ++ ys) := fun y hy => by
  rcases List.mem_append.1 hy with hy | hy
  · exact h y hy
  · exact h' y hy
theorem Dig.left_ (h : Dig b (xs ++ ys)) : Dig b xs := fun y hy => h y (by simp [hy])
theorem Dig.right_ (h : Dig b (xs ++ ys)) : Dig b ys := fun y hy => h y (by simp [hy])
theorem Dig.take_ (h : Dig b xs) (k : Nat) : Dig b (xs.take k) := fun y hy => h y (List.mem_of_mem_take hy)
theorem Dig.drop_ (h : Dig b xs) (k : Nat) : Dig b (xs.drop k) := fun y hy => h y (List.mem_of_mem_drop hy)
theorem Dig.at_ (h : Dig b xs) {k : Nat} (hk : k < xs.length) : 0 ≤ xs.getD k 0 ∧ xs.getD k 0 < (b : Int) := by
  have : xs.getD k 0 = xs[k] := by simp [List.getD_eq_getElem?_getD, hk]
  rw [this]
  exact h _ (List.getElem_mem hk)
theorem Dig.zeros (hb : 0 < b) (n : Nat) : Dig b (List.replicate n 0) := fun y hy => by
  rw [List.eq_of_mem_replicate hy]
  omega

theorem val_nil : val b [] = 0 := rfl
theorem val_cons (x : Int) : val b (x :: xs) = x.toNat + b * val b xs := rfl
theorem val_append : val b (xs ++ ys) = val b xs + b ^ xs.length * val b ys := by
  induction xs with
  | nil => simp [val]
  | cons x xs ih =>
    rw [List.cons_append, val_cons, val_cons, ih, List.length_cons, Nat.pow_succ, Nat.mul_add, ← Nat.mul_assoc, Nat.mul_comm (b ^ xs.length) b]
    omega
theorem val_snoc (x : Int) : val b (xs ++ [x]) = val b xs + b ^ xs.length * x.toNat := by
  rw [val_append]; simp [val]
theorem val_zeros (n : Nat) : val b (List.replicate n 0) = 0 := by
  induction n with
  | zero => rfl
  | succ n ih => rw [List.replicate_succ, val_cons, ih]; rfl
theorem val_lt (h : Dig b xs) : val b xs < b ^ xs.length := by
  induction xs with
  | nil => simp [val]
  | cons x xs ih =>
    have h1 := h.head_
    have h2 := ih h.tail_
    rw [val_cons, List.length_cons, Nat.pow_succ, Nat.mul_comm (b ^ xs.length) b]
    have h3 : b * (val b xs + 1) ≤ b * b ^ xs.length := Nat.mul_le_mul_left b h2
    rw [Nat.mul_add] at h3
    omega
theorem val_take_drop (k : Nat) (hk : k ≤ xs.length) : val b xs = val b (xs.take k) + b ^ k * val b (xs.drop k) := by
  have h := val_append (b := b) (xs := xs.take k) (ys := xs.drop k)
  rwa [List.take_append_drop, List.length_take, Nat.min_eq_left hk] at h
theorem val_take_succ (k : Nat) (hk : k < xs.length) : val b (xs.take (k + 1)) = val b (xs.take k) + b ^ k * (xs.getD k 0).toNat := by
  rw [List.take_succ_eq_append_getElem hk, val_snoc, List.length_take, Nat.min_eq_left (by omega)]
  congr 3
  simp [List.getD_eq_getElem?_getD, hk]
theorem val_take_all (k : Nat) (hk : xs.length ≤ k) : val b (xs.take k) = val b xs := by rw [List.take_of_length_le hk]
/-- Digits are told by their number. -/
theorem val_inj (h : Dig b xs) (h' : Dig b ys) (hl : xs.length = ys.length) (e : val b xs = val b ys) : xs = ys := by
  induction xs generalizing ys with
  | nil => exact (List.eq_nil_of_length_eq_zero hl.symm).symm
  | cons x xs ih =>
    cases ys with
    | nil => cases hl
    | cons y ys =>
      rw [val_cons, val_cons] at e
      have h1 := h.head_
      have h2 := h'.head_
      have hx : x.toNat < b := by omega
      have hy : y.toNat < b := by omega
      have e1 : x.toNat = y.toNat := by
        have := congrArg (· % b) e
        simpa [Nat.add_mul_mod_self_left, Nat.mod_eq_of_lt hx, Nat.mod_eq_of_lt hy] using this
      have e2 : val b xs = val b ys := by
        rw [e1] at e
        exact Nat.eq_of_mul_eq_mul_left (by omega : 0 < b) (by omega)
      have e3 : x = y := by omega
      rw [e3, ih h.tail_ h'.tail_ (by simpa using hl) e2]
end

/-- No nought at the end. -/
def Can (xs : List Int) : Prop := ∀ k, k + 1 = xs.length → xs.getD k 0 ≠ 0
theorem Can.nil_ : Can [] := fun k h => by cases h
theorem can_of_last {xs : List Int} {x : Int} (h : x ≠ 0) : Can (xs ++ [x]) := fun k hk => by
  have : k = xs.length := by simpa using hk
  subst this
  simpa [List.getD_eq_getElem?_getD] using h
theorem Can.low {b : Nat} {xs : List Int} (h : Can xs) (hd : Dig b xs) (hn : xs ≠ []) : b ^ (xs.length - 1) ≤ val b xs := by
  obtain ⟨k, hk⟩ : ∃ k, k + 1 = xs.length := ⟨xs.length - 1, by have := List.length_pos_iff.2 hn; omega⟩
  have h1 := h k hk
  have h2 := hd.at_ (k := k) (by omega)
  have h3 := val_take_succ (b := b) (xs := xs) k (by omega)
  rw [List.take_of_length_le (by omega)] at h3
  have h4 : 1 ≤ (xs.getD k 0).toNat := by omega
  have h5 : b ^ k * 1 ≤ b ^ k * (xs.getD k 0).toNat := Nat.mul_le_mul_left _ h4
  rw [h3, show xs.length - 1 = k by omega]
  omega
theorem Can.uniq {b : Nat} {xs ys : List Int} (hb : 1 < b) (h : Can xs) (hd : Dig b xs) (h' : Can ys) (hd' : Dig b ys) (e : val b xs = val b ys) : xs = ys := by
  have key : ∀ {xs ys : List Int}, Dig b xs → Can ys → Dig b ys → val b xs = val b ys → ys.length ≤ xs.length := by
    intro xs ys hd h' hd' e
    rcases Nat.lt_or_ge xs.length ys.length with hlt | hge
    · have h1 := val_lt hd
      have h2 := h'.low hd' (by intro e; rw [e] at hlt; simp at hlt)
      have h3 : b ^ xs.length ≤ b ^ (ys.length - 1) := Nat.pow_le_pow_right (by omega) (by omega)
      omega
    · exact hge
  exact val_inj hd hd' (Nat.le_antisymm (key hd' h hd e.symm) (key hd h' hd' e)) e

/-- The digits of a number. -/
def digs (b : Nat) (n : Nat) : List Int := if _h : 1 < b ∧ n ≠ 0 then ((n % b : Nat) : Int) :: digs b (n / b) else []
termination_by n
decreasing_by exact Nat.div_lt_self (by omega) _h.1
theorem digs_zero (b : Nat) : digs b 0 = [] := by rw [digs]; simp
theorem digs_pos {b n : Nat} (hb : 1 < b) (hn : n ≠ 0) : digs b n = ((n % b : Nat) : Int) :: digs b (n / b) := by rw [digs]; simp [hb, hn]
theorem digs_spec {b : Nat} (hb : 1 < b) (n : Nat) : val b (digs b n) = n ∧ Dig b (digs b n) ∧ Can (digs b n) := by
  induction n using Nat.strongRecOn with
  | _ n ih =>
    by_cases hn : n = 0
    · subst hn
      rw [digs_zero]
      exact ⟨rfl, Dig.nil_, Can.nil_⟩
    · obtain ⟨h1, h2, h3⟩ := ih (n / b) (Nat.div_lt_self (by omega) hb)
      rw [digs_pos hb hn]
      have hm := Nat.mod_lt n (show b > 0 by omega)
      refine ⟨?_, Dig.cons_ (by omega) (by omega) h2, ?_⟩
      · rw [val_cons, h1, Int.toNat_natCast]
        exact Nat.mod_add_div n b
      · intro k hk
        cases k with
        | zero =>
          have hz : digs b (n / b) = [] := List.eq_nil_of_length_eq_zero (by simpa using hk.symm)
          rw [hz] at h1
          have hq : n / b = 0 := h1.symm
          have : n % b ≠ 0 := by
            have := Nat.mod_add_div n b
            rw [hq] at this
            omega
          show ((n % b : Nat) : Int) ≠ 0
          omega
        | succ k =>
          have := h3 k (by simpa using hk)
          simpa [List.getD_eq_getElem?_getD] using this
theorem digs_val {b : Nat} (hb : 1 < b) {xs : List Int} (h : Can xs) (hd : Dig b xs) : digs b (val b xs) = xs := by
  obtain ⟨h1, h2, h3⟩ := digs_spec hb (val b xs)
  exact Can.uniq hb h3 h2 h hd h1

/-- The limbs of a number, and the number of limbs. -/
def limbs (n : Nat) : List Int := digs 4294967296 n
def nv (xs : List Int) : Nat := val 4294967296 xs
def D32 (xs : List Int) : Prop := Dig 4294967296 xs
theorem nv_limbs (n : Nat) : nv (limbs n) = n := (digs_spec (by omega) n).1
theorem limbs_dig (n : Nat) : D32 (limbs n) := (digs_spec (by omega) n).2.1
theorem limbs_can (n : Nat) : Can (limbs n) := (digs_spec (by omega) n).2.2
theorem limbs_nv {xs : List Int} (h : Can xs) (hd : D32 xs) : limbs (nv xs) = xs := digs_val (by omega) h hd
theorem limbs_inj {n m : Nat} (h : limbs n = limbs m) : n = m := by rw [← nv_limbs n, ← nv_limbs m, h]
theorem limbs_zero : limbs 0 = [] := digs_zero _
theorem limbs_len_pos {n : Nat} : 0 < (limbs n).length ↔ 0 < n := by
  constructor
  · intro h
    rcases Nat.eq_zero_or_pos n with rfl | h0
    · rw [limbs_zero] at h; simp at h
    · exact h0
  · intro h
    rcases Nat.eq_zero_or_pos (limbs n).length with h0 | h0
    · have := nv_limbs n
      rw [List.eq_nil_of_length_eq_zero h0] at this
      simp [nv, val] at this
      omega
    · exact h0
theorem limbs_lt (n : Nat) : n < 4294967296 ^ (limbs n).length := by
  have := val_lt (limbs_dig n)
  rwa [show val 4294967296 (limbs n) = n from nv_limbs n] at this
theorem limbs_low {n : Nat} (h : 0 < n) : 4294967296 ^ ((limbs n).length - 1) ≤ n := by
  have := (limbs_can n).low (limbs_dig n) (by intro e; have := limbs_len_pos.2 h; rw [e] at this; simp at this)
  rwa [show val 4294967296 (limbs n) = n from nv_limbs n] at this
theorem limbs_len_le {n k : Nat} (h : n < 4294967296 ^ k) : (limbs n).length ≤ k := by
  rcases Nat.lt_or_ge k (limbs n).length with hlt | hge
  · have h0 : 0 < n := limbs_len_pos.1 (by omega)
    have h1 := limbs_low h0
    have h2 : 4294967296 ^ k ≤ 4294967296 ^ ((limbs n).length - 1) := Nat.pow_le_pow_right (by omega) (by omega)
    omega
  · exact hge

/-- A list without the noughts at its end. -/
theorem trim_exists (xs : List Int) : ∃ n, n ≤ xs.length ∧ (∀ k, n ≤ k → k < xs.length → xs.getD k 0 = 0) ∧ (∀ k, k + 1 = n → xs.getD k 0 ≠ 0) := by
  have h : ∀ m, m ≤ xs.length → (∀ k, m ≤ k → k < xs.length → xs.getD k 0 = 0) → ∃ n, n ≤ xs.length ∧ (∀ k, n ≤ k → k < xs.length → xs.getD k 0 = 0) ∧ (∀ k, k + 1 = n → xs.getD k 0 ≠ 0) := by
    intro m
    induction m with
    | zero => exact fun h0 h1 => ⟨0, h0, h1, fun k hk => by omega⟩
    | succ m ih =>
      intro h0 h1
      by_cases e : xs.getD m 0 = 0
      · exact ih (by omega) fun k hk hkl => by
          by_cases hkm : k = m
          · rw [hkm]; exact e
          · exact h1 k (by omega) hkl
      · exact ⟨m + 1, h0, h1, fun k hk => by rw [show k = m by omega]; exact e⟩
  exact h xs.length (Nat.le_refl _) fun k hk hkl => by omega
theorem take_trim {b : Nat} {xs : List Int} {n : Nat} (hn : n ≤ xs.length) (h1 : ∀ k, n ≤ k → k < xs.length → xs.getD k 0 = 0) : val b (xs.take n) = val b xs := by
  have h := val_append (b := b) (xs := xs.take n) (ys := xs.drop n)
  rw [List.take_append_drop] at h
  have hz : xs.drop n = List.replicate (xs.length - n) 0 := by
    apply List.ext_getElem (by simp)
    intro i h2 h3
    rw [List.length_drop] at h2
    have := h1 (n + i) (by omega) (by omega)
    rw [List.getElem_drop, List.getElem_replicate]
    simpa [List.getD_eq_getElem?_getD, show n + i < xs.length by omega] using this
  rw [hz, val_zeros] at h
  omega
theorem trim_limbs {xs : List Int} (hd : D32 xs) {n : Nat} (hn : n ≤ xs.length) (h1 : ∀ k, n ≤ k → k < xs.length → xs.getD k 0 = 0) (h2 : ∀ k, k + 1 = n → xs.getD k 0 ≠ 0) : xs.take n = limbs (nv xs) := by
  have hc : Can (xs.take n) := fun k hk => by
    rw [List.length_take, Nat.min_eq_left hn] at hk
    have := h2 k hk
    simpa [List.getD_eq_getElem?_getD, List.getElem?_take, show k < n by omega] using this
  have hv : nv (xs.take n) = nv xs := take_trim hn h1
  rw [← hv, limbs_nv hc (hd.take_ n)]
end Go.Proofs.YtlndchmpnnlacaaDoor

namespace Go.Proofs.YtlndchmpnnlacaaDoor
open Go.RowKit

theorem block_of_add (a : Addr) (n : Nat) : (a.add n).block = a.block := by unfold Addr.add; split <;> rfl
theorem add_of_add (a : Addr) (i j : Nat) : (a.add i).add j = a.add (i + j) := by
  unfold Addr.add
  by_cases hi : i = 0 <;> by_cases hj : j = 0 <;> simp [hi, hj, Nat.add_assoc]

/-- The slice value '.slice A xs.length c' reads as the numbers xs of kind k, below block B. -/
def KL (k : IntKind) (w : World) (B : Nat) (A : Option Addr) (xs : List Int) : Prop :=
  0 < xs.length → ∃ ad, A = some ad ∧ ad.block < B ∧ ∀ j, j < xs.length → w.cell? (ad.add j) = some (.int k (xs.getD j 0))

section
variable {k : IntKind} {w w' : World} {B B' : Nat} {A : Option Addr} {xs : List Int}
theorem KL.nil_ : KL k w B A [] := fun h => absurd h (by simp)
theorem KL.keep (h : KL k w B A xs) (hk : ∀ p : Addr, p.block < B → w'.cell? p = w.cell? p) : KL k w' B A xs := fun hn => by
  obtain ⟨ad, e, hb, hc⟩ := h hn
  exact ⟨ad, e, hb, fun j hj => (hk _ (by rw [block_of_add]; exact hb)).trans (hc j hj)⟩
theorem KL.more (h : KL k w B A xs) (hB : B ≤ B') : KL k w B' A xs := fun hn => by
  obtain ⟨ad, e, hb, hc⟩ := h hn
  exact ⟨ad, e, by omega, hc⟩
theorem KL.below (h : KL k w B A xs) (hb : Below B w w') : KL k w' B A xs := h.keep fun _ hp => hb.cell hp
/-- From the world's own size to a later world's own size. -/
theorem KL.up (h : KL k w w.heap.size A xs) (hb : Below w.heap.size w w') : KL k w' w'.heap.size A xs := (h.below hb).more hb.size
theorem KL.cut {n c : Nat} (h : KL k w B A xs) (hk : n ≤ xs.length) (hc : xs.length ≤ c) : KL k w B (if c = n then A else A.map (·.add n)) (xs.drop n) := fun hn => by
  rw [List.length_drop] at hn
  obtain ⟨ad, rfl, hb, hcell⟩ := h (by omega)
  rw [if_neg (by omega)]
  refine ⟨ad.add n, rfl, by rw [block_of_add]; exact hb, fun j hj => ?_⟩
  rw [List.length_drop] at hj
  rw [add_of_add, hcell _ (by omega)]
  simp [List.getD_eq_getElem?_getD, List.getElem?_drop]
theorem KL.head {n : Nat} (h : KL k w B A xs) (hk : n ≤ xs.length) : KL k w B A (xs.take n) := fun hn => by
  rw [List.length_take] at hn
  obtain ⟨ad, rfl, hb, hcell⟩ := h (by omega)
  refine ⟨ad, rfl, hb, fun j hj => ?_⟩
  rw [List.length_take] at hj
  rw [hcell _ (by omega)]
  have h1 : j < n := by omega
  simp [List.getD_eq_getElem?_getD, h1]
end

theorem below_drewN {B : Nat} {a w : World} (h : Below B a w) (n : Nat) : Below B a (w.drewN n) := ⟨h.os, h.tape, h.output, h.size, h.block⟩
theorem below_of_drewN {B : Nat} {a b w : World} (h : Below B a b) (hw : ∃ n, w = b.drewN n) : Below B a w := by
  obtain ⟨n, rfl⟩ := hw
  exact below_drewN h n
theorem below_chain {w W w' : World} (h : Below w.heap.size w W) (k : Below W.heap.size W w') : Below w.heap.size w w' := h.trans (k.mono h.size)
theorem ownsRow_drewN {w : World} {base : Nat} {e : TypeId} {size n : Nat} {v : Value} {xs : List Value} (h : w.ownsRow base e size v n xs) (k : Nat) : (w.drewN k).ownsRow base e size v n xs := h
theorem quiet_add {P : Program} {f : FuncId} {args : Array Value} {w : World} {a n : Nat} {v : Value}
    (h : Calls P f args (w.drewN (a + n)) fun e w' => e = .returned v ∧ ∃ m, w' = (w.drewN (a + n)).drewN m) :
    Calls P f args (w.drewN (a + n)) fun e w'' => e = .returned v ∧ ∃ m, w'' = w.drewN (a + m) :=
  h.mono fun _ _ ⟨he, m, hm⟩ => ⟨he, n + m, by rw [hm, World.drewN_drewN, Nat.add_assoc]⟩
theorem quiet_add_left {P : Program} {f : FuncId} {args : Array Value} {w : World} {a n : Nat} {v : Value}
    (h : Calls P f args (w.drewN (a + n)) fun e w' => e = .returned v ∧ w.drewN (a + n) = w') :
    Calls P f args (w.drewN (a + n)) fun e w'' => e = .returned v ∧ ∃ m, w'' = w.drewN (a + m) :=
  h.mono fun _ _ ⟨he, hm⟩ => ⟨he, n, hm.symm⟩
theorem quiet_left {P : Program} {f : FuncId} {args : Array Value} {w : World} {n : Nat} {v : Value}
    (h : Calls P f args (w.drewN n) fun e w' => e = .returned v ∧ w.drewN n = w') : Calls P f args (w.drewN n) fun e w'' => e = .returned v ∧ ∃ m, w'' = w.drewN m :=
  h.mono fun _ _ ⟨he, hm⟩ => ⟨he, n, hm.symm⟩

theorem ret_bool {a b : Bool} (h : a = b) : Ending.returned (.bool a) = .returned (.bool b) := by rw [h]
theorem ret_int {k : IntKind} {a b : Int} (h : a = b) : Ending.returned (.int k a) = .returned (.int k b) := by rw [h]
theorem ret_pair {k k' : IntKind} {a b c d : Int} (h : a = c) (h' : b = d) : Ending.returned (.tuple #[.int k a, .int k' b]) = .returned (.tuple #[.int k c, .int k' d]) := by rw [h, h']
theorem getD_of_lt {xs : List Int} {k : Nat} (h : k < xs.length) : xs.getD k 0 = xs[k] := by simp [List.getD_eq_getElem?_getD, h]
theorem take_snoc {xs : List Int} {k : Nat} (h : k < xs.length) : xs.take (k + 1) = xs.take k ++ [xs.getD k 0] := by
  rw [List.take_succ_eq_append_getElem h, getD_of_lt h]

/-- A row of the call's own reads. -/
theorem KL.of_own {k : IntKind} {w : World} {base : Nat} {e : TypeId} {A : Option Addr} {n c : Nat} {zs : List Int} (h : w.ownsRow base e 1 (.slice A n c) n (zs.map (Value.int k))) : zs.length = n ∧ zs.length ≤ c ∧ KL k w w.heap.size A zs := by
  have hl : zs.length = n := by have := h.1; simpa using this
  refine ⟨hl, ?_, fun hn => ?_⟩
  · rcases h.2 with ⟨hv, hn⟩ | ⟨g, cap, cur, hv, _, _, hnc, _⟩
    · omega
    · injection hv with _ _ h3
      omega
  · rcases h.2 with ⟨hv, h0⟩ | ⟨g, cap, cur, hv, _, hh, _⟩
    · omega
    · have hA : A = some ⟨g, 0, none⟩ := by injection hv
      subst hA
      refine ⟨_, rfl, (Array.getElem?_eq_some_iff.1 hh).1, fun j hj => ?_⟩
      have := h.cells (g := g) rfl j (.int k (zs.getD j 0)) (by simp [List.getD_eq_getElem?_getD, hj])
      exact this
/-- What was made by make: noughts. -/
theorem own_zeros {k : IntKind} {w : World} {base : Nat} {e : TypeId} {v : Value} {n : Nat} (h : w.ownsRow base e 1 v n (madeCells (Value.int k 0).cells (n * 1)).toList) : w.ownsRow base e 1 v n ((List.replicate n (0 : Int)).map (Value.int k)) := by
  rw [List.map_replicate, ← toList_madeCells_one (.int k 0) n]
  rw [Nat.mul_one] at h
  exact h
/-- A store in a row of the call's own. -/
theorem own_set {k : IntKind} {w : World} {base : Nat} {e : TypeId} {g n c : Nat} {zs : List Int} (h : w.ownsRow base e 1 (.slice (some ⟨g, 0, none⟩) n c) n (zs.map (Value.int k))) (j : Nat) (x : Int) :
    (w.setCell ⟨g, j, none⟩ (.int k x)).ownsRow base e 1 (.slice (some ⟨g, 0, none⟩) n c) n ((zs.set j x).map (Value.int k)) := by
  have := (h.stored j (.int k x)).1
  rwa [← List.map_set] at this
theorem own_cell {k : IntKind} {w : World} {base : Nat} {e : TypeId} {g n c : Nat} {zs : List Int} (h : w.ownsRow base e 1 (.slice (some ⟨g, 0, none⟩) n c) n (zs.map (Value.int k))) {j : Nat} (hj : j < n) : w.cell? ⟨g, j, none⟩ = some (.int k (zs.getD j 0)) := by
  have hl : zs.length = n := by have := h.1; simpa using this
  rw [h.cellAt j (by omega), List.getElem?_map, List.getElem?_eq_getElem (by omega), getD_of_lt (by omega)]
  rfl
end Go.Proofs.YtlndchmpnnlacaaDoor
