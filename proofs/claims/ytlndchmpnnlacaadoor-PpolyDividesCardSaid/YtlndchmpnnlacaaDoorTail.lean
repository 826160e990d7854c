/- A region whose last stores overwrite what it reads: the condition S is asked behind the operations ahead of these stores alone. A region within a round of a range over a function, by the laws for regions outside. Euclid's invariant for polynomials: plain mathematics. -/
import Derived.Test.YtlndchmpnnlacaaDoorSm
import Derived.RangeFuncCalls
import Derived.OrdersIn
namespace Go.Proofs.YtlndchmpnnlacaaDoor
section
variable {P : Program} {ops : Array Oper} {Q : Exit → Act → World → Prop} {md : Region.Mode} {S : Array Bool → World → Prop} {X : World → Prop} {T : List Nat}
/-- Whatever order is picked; S of those that have come up holds behind each. -/
def wpAnyT (P : Program) (md : Region.Mode) (ops : Array Oper) (Q : Exit → Act → World → Prop) (S : Array Bool → World → Prop) : Nat → Array Bool → Act → World → Prop
  | 0, listed, a, w => Region.ready md ops listed = [] ∧ Q .normal a w
  | fuel + 1, listed, a, w =>
    (Region.ready md ops listed = [] → Q .normal a w) ∧
    ∀ i ∈ Region.ready md ops listed, wpOp P ops Q i (fun a' w' => S (listed.setIfInBounds i true) w' ∧ wpAnyT P md ops Q S fuel (listed.setIfInBounds i true) a' w') a w
theorem wpAny_of_tail : ∀ (fuel : Nat) (listed : Array Bool) (a : Act) (w : World), wpAnyT P md ops Q S fuel listed a w → wpAny P md ops Q fuel listed a w
  | 0, _, _, _, h => h
  | fuel + 1, _, _, _, h => ⟨h.1, fun i hi => wpOp_mono (fun a' w' h' => wpAny_of_tail fuel _ a' w' h'.2) (h.2 i hi)⟩
/-- Each operation of T waits for operation i. -/
def waitT (md : Region.Mode) (ops : Array Oper) (T : List Nat) (i : Nat) : Bool := T.all fun j => match ops[j]? with | some o => o.after.any fun e => Region.binds md e && e.on == i | none => true
def openT (T : List Nat) (listed : Array Bool) : Bool := T.all fun t => listed.getD t true == false
theorem wpAnyT_first {i : Nat} {oi : Oper} {v : Value} (hi : ops[i]? = some oi) (hsel : ∀ (j : Nat) (o : Oper) cs b, ops[j]? = some o → o.op ≠ .select cs b)
    (hQ : ∀ c a w, Q (.panic c) (a.put oi.dst v) w → Q (.panic c) a w) (hW : waitT md ops T i = true) (hI : ∀ l w, S (l.setIfInBounds i true) w ↔ S l w) (hX : ∀ l w, openT T l = true → S l w → X w) :
    ∀ (fuel : Nat) (listed : Array Bool) (a : Act) (w : World),
      (∀ j oj, ops[j]? = some oj → j ≠ i → listed.getD j true = false → (∀ e ∈ oj.after, Region.binds md e = true → e.on ≠ i) → oi.apart ops oj = true) →
      i ∈ Region.ready md ops listed → openT T listed = true → YieldsIf P ops X oi v a → S listed w →
      wpAnyT P md ops Q S fuel (listed.setIfInBounds i true) (a.put oi.dst v) w → wpAnyT P md ops Q S (fuel + 1) listed a w := by
  intro fuel
  induction fuel with
  | zero =>
    intro listed a w _ hr hU hy hS H
    refine ⟨fun h => (by rw [h] at hr; cases hr), fun j hj => ?_⟩
    by_cases hji : j = i
    · subst hji; exact hy.wpOp hi (hX _ _ hU hS) ⟨(hI _ _).2 hS, H⟩
    · have := ready_mono hj hji
      rw [H.1] at this
      cases this
  | succ fuel ih =>
    intro listed a w hfree hr hU hy hS H
    refine ⟨fun h => (by rw [h] at hr; cases hr), fun j hj => ?_⟩
    by_cases hji : j = i
    · subst hji; exact hy.wpOp hi (hX _ _ hU hS) ⟨(hI _ _).2 hS, H⟩
    · have h1 := H.2 j (ready_mono hj hji)
      obtain ⟨hjun, oj, hoj, hall⟩ := mem_ready.1 hj
      have hnot : ∀ e ∈ oj.after, Region.binds md e = true → e.on ≠ i := fun e he hb heq => by
        have h1 := hall e he hb
        have h0 := (mem_ready.1 hr).1
        rw [heq] at h1
        rcases Nat.lt_or_ge i listed.size with h' | h'
        · simp [h'] at h0 h1; rw [h0] at h1; cases h1
        · simp [Array.getElem?_eq_none h'] at h1
      have hU' : openT T (listed.setIfInBounds j true) = true := by
        refine List.all_eq_true.2 fun t ht => ?_
        have h2 := List.all_eq_true.1 hU t ht
        have htj : j ≠ t := fun e => by
          subst e
          have h3 := List.all_eq_true.1 hW j ht
          rw [hoj] at h3
          obtain ⟨e, he, h4⟩ := Array.any_eq_true'.1 h3
          simp only [Bool.and_eq_true, beq_iff_eq] at h4
          exact absurd h4.2 (hnot e he h4.1)
        rw [getD_set_ne true htj]
        exact h2
      have h2 := wpOp_putIf hoj (hfree j oj hoj hji hjun hnot) (fun cs b => hsel i oi cs b hi) (fun cs b => hsel j oj cs b hoj) hQ hy h1
      have hfree' : ∀ k ok, ops[k]? = some ok → k ≠ i → (listed.setIfInBounds j true).getD k true = false →
          (∀ e ∈ ok.after, Region.binds md e = true → e.on ≠ i) → oi.apart ops ok = true := fun k ok hk hki hun hno => by
        refine hfree k ok hk hki ?_ hno
        by_cases hjk : j = k
        · subst hjk; exact hjun
        · rw [getD_set_ne true hjk] at hun; exact hun
      refine wpOp_mono (fun a' w' h3 => ?_) h2
      have h4 : S (listed.setIfInBounds j true) w' := (hI _ _).1 (by rw [Array.setIfInBounds_comm _ _ hji]; exact h3.2.1)
      refine ⟨h4, ih (listed.setIfInBounds j true) a' w' hfree' (ready_mono hr (Ne.symm hji)) hU' h3.1 h4 ?_⟩
      rw [Array.setIfInBounds_comm _ _ hji]
      exact h3.2.2
theorem wpAnyT_take (X : World → Prop) (T : List Nat) {i : Nat} {oi : Oper} {v : Value} {fuel : Nat} {listed : Array Bool} {a : Act} {w : World} (hI : ∀ l w, S (l.setIfInBounds i true) w ↔ S l w) (hX : ∀ l w, openT T l = true → S l w → X w) (hi : ops[i]? = some oi)
    (hs : Region.noSelect ops = true) (hf : Region.free md ops listed i = true) (hr : (Region.ready md ops listed).contains i = true) (hW : waitT md ops T i = true) (hU : openT T listed = true)
    (hQ : ∀ c a w, Q (.panic c) (a.put oi.dst v) w → Q (.panic c) a w) (hS : S listed w) (hy : YieldsIf P ops X oi v a)
    (h : S (listed.setIfInBounds i true) w → wpAnyT P md ops Q S fuel (listed.setIfInBounds i true) (a.put oi.dst v) w) : wpAnyT P md ops Q S (fuel + 1) listed a w :=
  wpAnyT_first hi (Region.noSelect_spec hs) hQ hW hI hX fuel listed a w (Region.free_spec hi hf) (by simpa using hr) hU hy hS (h ((hI _ _).2 hS))
/-- One alone may come up. -/
theorem wpAnyT_one {i : Nat} {oi : Oper} {fuel : Nat} {listed : Array Bool} {a : Act} {w : World} (hr : Region.ready md ops listed = [i]) (hi : ops[i]? = some oi)
    (h : ∀ K' : Act → World → Prop, Shut (∀ a w, S (listed.setIfInBounds i true) w → (S (listed.setIfInBounds i true) w → wpAnyT P md ops Q S fuel (listed.setIfInBounds i true) a w) → K' a w) → if Region.wanted oi (yielded ops a.tmps) = true then Oper.wp P oi a w K' Q else K' (a.put oi.dst undef) w) : wpAnyT P md ops Q S (fuel + 1) listed a w := by
  refine ⟨fun h0 => absurd (hr ▸ h0) (by simp), fun j hj => ?_⟩
  rw [hr] at hj
  obtain rfl : j = i := by simpa using hj
  exact wpOp_step hi fun K' hK => h K' fun a w hS hW => hK a w ⟨hS, hW hS⟩
theorem wpAnyT_done {listed : Array Bool} {a : Act} {w : World} (hr : Region.ready md ops listed = []) (h : Q .normal a w) :
    ∀ fuel, wpAnyT P md ops Q S fuel listed a w
  | 0 => ⟨hr, h⟩
  | _ + 1 => ⟨fun _ => h, by rw [hr]; simp⟩
theorem wp_region_tail (S : Array Bool → World → Prop) {id : Nat} {a : Act} {w : World} (hm : P.follows .mixedOrders = true) (hS : S (Array.replicate ops.size false) w.drew)
    (h : S (Array.replicate ops.size false) w.drew → wpAnyT P .any ops Q S ops.size (Array.replicate ops.size false) a w.drew) : (Code.region id ops true).wp P Q a w :=
  wp_region_any hm (wpAny_of_tail _ _ _ _ (h hS))
/-- Ahead of operation s both conditions hold, ahead of operation t the second. -/
def TwoS (s t : Nat) (A B : World → Prop) (l : Array Bool) (w : World) : Prop := (l.getD s true = false → A w) ∧ (l.getD t true = false → B w)
theorem TwoS.iff {s t i : Nat} {A B : World → Prop} (h1 : i ≠ s) (h2 : i ≠ t) (l : Array Bool) (w : World) : TwoS s t A B (l.setIfInBounds i true) w ↔ TwoS s t A B l w := by
  unfold TwoS
  rw [getD_set_ne true h1, getD_set_ne true h2]
theorem TwoS.both {s t : Nat} {A B : World → Prop} (l : Array Bool) (w : World) (h : openT [s, t] l = true) (k : TwoS s t A B l w) : A w ∧ B w := by
  exact ⟨k.1 (eq_of_beq (List.all_eq_true.1 h s (by simp))), k.2 (eq_of_beq (List.all_eq_true.1 h t (by simp)))⟩
theorem TwoS.second {s t : Nat} {A B : World → Prop} (l : Array Bool) (w : World) (h : openT [t] l = true) (k : TwoS s t A B l w) : B w := by
  exact k.2 (eq_of_beq (List.all_eq_true.1 h t (by simp)))
end
end Go.Proofs.YtlndchmpnnlacaaDoor

namespace Go.Proofs.YtlndchmpnnlacaaDoor
/-- Q where it goes on; no other way out. -/
def OnlyN (Q : Exit → Act → World → Prop) : Exit → Act → World → Prop
  | .normal, a, w => Q .normal a w
  | _, _, _ => False
theorem wpOps_in {P : Program} {ops : Array Oper} {Q : Exit → Act → World → Prop} (l n : Nat) (hd : ∀ (i : Nat) (o : Oper) c, ops[i]? = some o → o.op ≠ .defer c) : ∀ (is : List Nat) (a : Act) (w : World), wpOps P ops (OnlyN Q) is a w → wpOpsIn (Fence.wide.inRound l) n P ops Q is a w
  | [], _, _, h => h
  | i :: is, a, w, h => by
    unfold wpOps at h
    unfold wpOpsIn
    cases ho : ops[i]? with
    | none => simp only [ho] at h ⊢; exact wpOps_in l n hd is a w h
    | some o =>
      simp only [ho] at h ⊢
      by_cases hw : Region.wanted o (yielded ops a.tmps) = true
      · rw [if_pos hw] at h ⊢
        have h : o.wp P a w (wpOps P ops (OnlyN Q) is) (OnlyN Q) := h.resolve_right fun k => by
          obtain ⟨_, a', w', k⟩ := k
          exact k
        refine ⟨fun _ _ => trivial, ?_⟩
        rw [Oper.semAt_eq _ _ _ (hd i o · ho)]
        unfold Oper.wp at h
        generalize (execOp a.eval o).run P w = r at h ⊢
        cases r with
        | ok x w' =>
          cases x with
          | value v => exact wpOps_in l n hd is _ _ h
          | skip => exact wpOps_in l n hd is _ _ h
          | defer d => exact wpOps_in l n hd is _ _ h
          | enter f args =>
            refine ⟨fun h => (by cases h), CallsIn.inRound l (callsIn_wide.2 (Calls.mono h fun e w'' he => ?_))⟩
            cases e with
            | returned v => exact wpOps_in l n hd is _ _ he
            | panicked c => exact he.elim
            | outgrown => obtain ⟨a', w', k⟩ := he; exact k.elim
          | row row args =>
            refine ⟨fun h => (by cases h), fun c cs _ => ?_⟩
            obtain ⟨v, w'', hr, hs⟩ := h c cs
            exact ⟨v, w'', wpOps_in l n hd is _ _ hr, stepsIn_wide.2 hs⟩
          | _ => exact h.elim
        | halt x w' =>
          cases x <;> exact h.elim
      · rw [if_neg hw] at h ⊢
        exact ⟨fun _ _ => trivial, wpOps_in l n hd is _ _ h⟩
def noDefer (ops : Array Oper) : Bool := ops.toList.all fun o => match o.op with | .defer _ => false | _ => true
theorem noDefer_spec {ops : Array Oper} (h : noDefer ops = true) (i : Nat) (o : Oper) (c : Call) (ho : ops[i]? = some o) : o.op ≠ .defer c := fun e => by
  have h1 := List.all_eq_true.1 h o (by
    obtain ⟨hi, e1⟩ := Array.getElem?_eq_some_iff.1 ho
    rw [← e1]
    exact Array.mem_def.1 (Array.getElem_mem hi))
  rw [e] at h1
  cases h1
theorem wpIn_region_tail (S : Array Bool → World → Prop) {P : Program} {ops : Array Oper} {Q : Exit → Act → World → Prop} {l n id : Nat} {a : Act} {w : World} (hm : P.follows .mixedOrders = true) (hd : noDefer ops = true) (hS : S (Array.replicate ops.size false) w.drew)
    (h : S (Array.replicate ops.size false) w.drew → wpAnyT P .any ops (OnlyN Q) S ops.size (Array.replicate ops.size false) a w.drew) : (Code.region id ops true).wpIn (Fence.wide.inRound l) n P Q a w :=
  wpIn_region_draw fun t => by
    simp only [Region.schedule, hm, Bool.true_or, if_true]
    exact wpOps_in l n (noDefer_spec hd) _ _ _ (wpAny_sound ops.size t _ a _ (wpAny_of_tail _ _ _ _ (h hS)))
end Go.Proofs.YtlndchmpnnlacaaDoor

namespace Go.Proofs.YtlndchmpnnlacaaDoor
section
variable {p : Nat} {a b c d f g h m q r u v xs ys zs G U V G' U' V' : List Int}
theorem divP_short (hp : PrimeN p) (hf : Pol p f) (hg : Pol p g) (hl : f.length < g.length) : divP p f g = [] ∧ modP p f g = f := by
  have ng : g ≠ [] := fun e => by rw [e] at hl; simp at hl
  have k : IsDiv p f g [] f := isDiv_of hp.pos (Pol.nil_ p) hf hl (by rw [nil_mulP, nil_addP hp.pos hf])
  have := k.to hp hf hg ng
  exact ⟨this.1.symm, this.2.symm⟩
theorem modP_lens (hp : PrimeN p) (hf : Pol p f) (hg : Pol p g) (ng : g ≠ []) : (modP p f g).length < g.length ∧ (modP p f g).length ≤ f.length := by
  have h := divmod_spec hp hf hg ng
  refine ⟨h.len, ?_⟩
  rcases Nat.lt_or_ge f.length g.length with h1 | h1
  · rw [(divP_short hp hf hg h1).2]; exact Nat.le_refl _
  · have := h.len
    omega
theorem divP_len (hp : PrimeN p) (hf : Pol p f) (hg : Pol p g) (ng : g ≠ []) : divP p f g ≠ [] → (divP p f g).length + g.length ≤ f.length + 1 := by
  intro hn
  have h := divmod_spec hp hf hg ng
  rcases Nat.lt_or_ge f.length g.length with h1 | h1
  · exact absurd (divP_short hp hf hg h1).1 hn
  · have e := subP_of_add hp.pos (a := modP p f g) (b := mulP p (divP p f g) g) (c := f) (mulP_pol hp.pos) ((addP_comm _ _).trans (h.sum hp.pos hf).symm)
    have l1 := mulP_length hp h.hq hg hn ng
    rw [e] at l1
    have l2 := subP_len (p := p) (xs := f) (ys := modP p f g)
    have l3 := h.len
    have l4 := List.length_pos_iff.2 ng
    omega
theorem mulP_len_le (p : Nat) (xs ys : List Int) : xs = [] ∨ ys = [] ∨ (mulP p xs ys).length + 1 ≤ xs.length + ys.length := by
  by_cases h1 : xs = []
  · exact .inl h1
  · by_cases h2 : ys = []
    · exact .inr (.inl h2)
    · have := cano_len p (xs.length + ys.length - 1) (conv (co xs) (co ys))
      have l1 := List.length_pos_iff.2 h1
      refine .inr (.inr ?_)
      show (cano p _ _).length + 1 ≤ _
      omega
/-- Where Euclid's loop stands. -/
structure EucP (p : Nat) (f g G U V G' U' V' : List Int) : Prop where
  hG : Pol p G
  hU : Pol p U
  hV : Pol p V
  hG' : Pol p G'
  hU' : Pol p U'
  hV' : Pol p V'
  sum : G = addP p (mulP p U f) (mulP p V g)
  sum' : G' = addP p (mulP p U' f) (mulP p V' g)
  dvd : ∀ c, (DvdP p c G ∧ DvdP p c G') ↔ (DvdP p c f ∧ DvdP p c g)
  l1 : U.length + G'.length ≤ f.length + g.length + 1
  l2 : U'.length + G.length ≤ f.length + g.length + 1
  l3 : V.length + G'.length ≤ f.length + g.length + 1
  l4 : V'.length + G.length ≤ f.length + g.length + 1
theorem EucP.start (hp : PrimeN p) (hf : Pol p f) (hg : Pol p g) : EucP p f g f [1] [] g [] [1] where
  hG := hf
  hU := pol_one hp.1
  hV := Pol.nil_ p
  hG' := hg
  hU' := Pol.nil_ p
  hV' := pol_one hp.1
  sum := by rw [mulP_one hp.1 hf, nil_mulP, addP_nil hp.pos hf]
  sum' := by rw [mulP_one hp.1 hg, nil_mulP, nil_addP hp.pos hg]
  dvd := fun c => Iff.rfl
  l1 := by simp; omega
  l2 := by simp; omega
  l3 := by simp; omega
  l4 := by simp; omega
theorem EucP.next (hp : PrimeN p) (h : EucP p f g G U V G' U' V') (n : G' ≠ []) :
    EucP p f g G' U' V' (modP p G G') (subP p U (mulP p (divP p G G') U')) (subP p V (mulP p (divP p G G') V')) where
  hG := h.hG'
  hU := h.hU'
  hV := h.hV'
  hG' := (divmod_spec hp h.hG h.hG' n).hr
  hU' := subP_pol hp.pos
  hV' := subP_pol hp.pos
  sum := h.sum'
  sum' := euclid_next hp h.hG h.hG' n h.sum h.sum'
  dvd := fun c => (mod_dvd hp h.hG h.hG' n).symm.trans (h.dvd c)
  l1 := by have := (modP_lens hp h.hG h.hG' n).2; have := h.l2; omega
  l2 := by
    have k := subP_len (p := p) (xs := U) (ys := mulP p (divP p G G') U')
    have k1 := divP_len hp h.hG h.hG' n
    have k2 := h.l1
    have k3 := h.l2
    rcases mulP_len_le p (divP p G G') U' with e | e | e
    · rw [e, nil_mulP] at k ⊢; simp at k; omega
    · rw [e, mulP_nil] at k ⊢; simp at k; omega
    · by_cases e2 : divP p G G' = []
      · rw [e2, nil_mulP] at k ⊢; simp at k; omega
      · have := k1 e2; omega
  l3 := by have := (modP_lens hp h.hG h.hG' n).2; have := h.l4; omega
  l4 := by
    have k := subP_len (p := p) (xs := V) (ys := mulP p (divP p G G') V')
    have k1 := divP_len hp h.hG h.hG' n
    have k2 := h.l3
    have k3 := h.l4
    rcases mulP_len_le p (divP p G G') V' with e | e | e
    · rw [e, nil_mulP] at k ⊢; simp at k; omega
    · rw [e, mulP_nil] at k ⊢; simp at k; omega
    · by_cases e2 : divP p G G' = []
      · rw [e2, nil_mulP] at k ⊢; simp at k; omega
      · have := k1 e2; omega
theorem EucP.both (hp : PrimeN p) (h : EucP p f g G U V [] U' V') : DvdP p G f ∧ DvdP p G g := (h.dvd G).1 ⟨DvdP.self hp.1 h.hG, DvdP.nil_ p G⟩
theorem EucP.zero (hp : PrimeN p) (h : EucP p f g [] U V [] U' V') : IsGcd p f g [] [] [] where
  hG := Pol.nil_ p
  hU := Pol.nil_ p
  hV := Pol.nil_ p
  left := (h.both hp).1
  right := (h.both hp).2
  sum := by rw [nil_mulP, nil_mulP, addP_nil hp.pos (Pol.nil_ p)]
  monic := .inl rfl
theorem EucP.ends (hp : PrimeN p) (h : EucP p f g G U V [] U' V') (n : G ≠ []) : IsGcd p f g (monP p G) (scaleP p (invN p (lead G)) U) (scaleP p (invN p (lead G)) V) where
  hG := scaleP_pol hp.pos
  hU := scaleP_pol hp.pos
  hV := scaleP_pol hp.pos
  left := DvdP.trans hp.pos (monP_spec hp h.hG n).2.1 (h.both hp).1
  right := DvdP.trans hp.pos (monP_spec hp h.hG n).2.1 (h.both hp).2
  sum := by
    have e := h.sum
    unfold monP
    rw [← scaleP_mul hp.pos, ← scaleP_mul hp.pos, ← scaleP_mul hp.pos, mulP_assoc hp.pos, mulP_assoc hp.pos, ← mulP_add hp.pos, ← e]
  monic := .inr (monP_spec hp h.hG n).1
theorem monP_len (p : Nat) (xs : List Int) : (monP p xs).length ≤ xs.length := cano_len _ _ _
theorem scaleP_len (p : Nat) (c : Int) (xs : List Int) : (scaleP p c xs).length ≤ xs.length := cano_len _ _ _
end
end Go.Proofs.YtlndchmpnnlacaaDoor
