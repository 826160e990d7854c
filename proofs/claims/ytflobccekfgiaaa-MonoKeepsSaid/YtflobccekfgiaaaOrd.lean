/- The orders as plain mathematics: each is lexicographic in a list of sums. -/
import Derived.Test.YtflobccekfgiaaaLawL
namespace Go.Proofs.Ytflobccekfgiaaa
open Go.RowKit

theorem sg_pos {n : Int} : 0 ≤ sg n ↔ 0 ≤ n := by unfold sg; split <;> (try split) <;> omega
theorem sg_neg {n : Int} : sg n ≤ 0 ↔ n ≤ 0 := by unfold sg; split <;> (try split) <;> omega
theorem sg_eq {n : Int} : sg n = 0 ↔ n = 0 := by unfold sg; split <;> (try split) <;> omega
theorem sg_flip (x y : Int) : sg (y - x) = - sg (x - y) := by unfold sg; (repeat' split) <;> omega
theorem sg_one {n : Int} (h : 0 < n) : sg n = 1 := by unfold sg; rw [if_neg (by omega), if_pos h]

theorem lexL_cons (x y : Int) (a b : List Int) : lexL (x :: a) (y :: b) = if x = y then lexL a b else sg (x - y) := rfl
theorem lexL_self (a : List Int) : lexL a a = 0 := by
  induction a with
  | nil => rfl
  | cons x a ih => rw [lexL_cons, if_pos rfl, ih]
theorem lexL_flip : ∀ a b : List Int, lexL b a = - lexL a b
  | [], [] => rfl
  | [], _ :: _ => rfl
  | _ :: _, [] => rfl
  | x :: a, y :: b => by
    rw [lexL_cons, lexL_cons]
    by_cases h : x = y
    · rw [if_pos h, if_pos h.symm, lexL_flip a b]
    · rw [if_neg h, if_neg (Ne.symm h), sg_flip x y]
theorem lexL_zero : ∀ {a b : List Int}, a.length = b.length → lexL a b = 0 → a = b
  | [], [], _, _ => rfl
  | x :: a, y :: b, hl, h => by
    rw [lexL_cons] at h
    by_cases e : x = y
    · rw [if_pos e] at h
      rw [e, lexL_zero (by simpa using hl) h]
    · rw [if_neg e, sg_eq] at h
      omega
theorem lexL_trans : ∀ {a b c : List Int}, a.length = b.length → b.length = c.length → 0 ≤ lexL a b → 0 ≤ lexL b c → 0 ≤ lexL a c
  | [], [], [], _, _, _, _ => by simp [lexL]
  | x :: a, y :: b, z :: c, h1, h2, p, q => by
    rw [lexL_cons] at p q ⊢
    by_cases e : x = y
    · rw [if_pos e] at p
      subst e
      by_cases f : x = z
      · rw [if_pos f] at q ⊢
        exact lexL_trans (by simpa using h1) (by simpa using h2) p q
      · rw [if_neg f] at q ⊢
        exact q
    · rw [if_neg e, sg_pos] at p
      by_cases f : y = z
      · subst f
        rw [if_neg e, sg_pos]
        exact p
      · rw [if_neg f, sg_pos] at q
        have g : x ≠ z := by omega
        rw [if_neg g, sg_pos]
        omega
theorem lexL_neg : ∀ a b : List Int, lexL (a.map fun x => -x) (b.map fun x => -x) = lexL b a
  | [], [] => rfl
  | [], _ :: _ => rfl
  | _ :: _, [] => rfl
  | x :: a, y :: b => by
    rw [List.map_cons, List.map_cons, lexL_cons, lexL_cons]
    by_cases h : x = y
    · rw [if_pos (by omega), if_pos h.symm, lexL_neg a b]
    · rw [if_neg (by omega), if_neg (Ne.symm h)]
      congr 1
      omega
theorem lexL_append : ∀ {a b : List Int} (c d : List Int), a.length = b.length → lexL (a ++ c) (b ++ d) = if lexL a b = 0 then lexL c d else lexL a b
  | [], [], c, d, _ => by simp [lexL]
  | x :: a, y :: b, c, d, h => by
    rw [List.cons_append, List.cons_append, lexL_cons, lexL_cons]
    by_cases e : x = y
    · rw [if_pos e, if_pos e]
      exact lexL_append c d (by simpa using h)
    · rw [if_neg e, if_neg e, if_neg (by rw [sg_eq]; omega)]
theorem lexL_add : ∀ {a b c : List Int}, a.length = b.length → a.length = c.length → lexL (List.zipWith (· + ·) a c) (List.zipWith (· + ·) b c) = lexL a b
  | [], [], [], _, _ => rfl
  | x :: a, y :: b, z :: c, h1, h2 => by
    rw [List.zipWith_cons_cons, List.zipWith_cons_cons, lexL_cons, lexL_cons]
    by_cases e : x = y
    · rw [if_pos (by omega), if_pos e]
      exact lexL_add (by simpa using h1) (by simpa using h2)
    · rw [if_neg (by omega), if_neg e]
      congr 1
      omega

/-- By degree, then from behind. -/
def keyG (xs : List Int) : List Int := degL xs :: xs.reverse.map fun x => -x
def key (k : Int) (cut : Nat) (xs : List Int) : List Int :=
  if k = 0 then xs else if k = 1 then degL xs :: xs else if k = 2 then keyG xs else keyG (xs.take cut) ++ keyG (xs.drop cut)
theorem keyG_length (xs : List Int) : (keyG xs).length = xs.length + 1 := by simp [keyG]
theorem key_length (k : Int) (cut : Nat) {xs ys : List Int} (h : xs.length = ys.length) : (key k cut xs).length = (key k cut ys).length := by
  unfold key
  split
  · exact h
  · split
    · simp [h]
    · split
      · rw [keyG_length, keyG_length, h]
      · simp only [List.length_append, keyG_length, List.length_take, List.length_drop, h]
theorem grevL_key (xs ys : List Int) : grevL xs ys = lexL (keyG xs) (keyG ys) := by
  unfold grevL keyG
  rw [lexL_cons, lexL_neg]
  by_cases e : degL xs = degL ys
  · rw [if_pos e, if_pos (by rw [sg_eq]; omega)]
  · rw [if_neg e, if_neg (by rw [sg_eq]; omega)]
theorem cmpL_key (k cut : Int) {xs ys : List Int} (h : xs.length = ys.length) : cmpL k cut xs ys = lexL (key k cut.toNat xs) (key k cut.toNat ys) := by
  unfold cmpL key
  split
  · rfl
  · split
    · unfold grlexL
      rw [lexL_cons]
      by_cases e : degL xs = degL ys
      · rw [if_pos e, if_pos (by rw [sg_eq]; omega)]
      · rw [if_neg e, if_neg (by rw [sg_eq]; omega)]
    · split
      · exact grevL_key xs ys
      · unfold blockL fst0
        rw [lexL_append _ _ (by simp only [keyG_length, List.length_take, h]), ← grevL_key, ← grevL_key]

theorem degL_cons (x : Int) (a : List Int) : degL (x :: a) = x + degL a := by
  have h : ∀ (a : List Int) (s : Int), a.foldl (· + ·) s = s + a.foldl (· + ·) 0 := by
    intro a
    induction a with
    | nil => intro s; simp
    | cons y a ih => intro s; rw [List.foldl_cons, List.foldl_cons, ih (s + y), ih (0 + y)]; omega
  unfold degL
  rw [List.foldl_cons, h]
  omega
theorem degL_add : ∀ {a b : List Int}, a.length = b.length → degL (List.zipWith (· + ·) a b) = degL a + degL b
  | [], [], _ => rfl
  | x :: a, y :: b, h => by
    rw [List.zipWith_cons_cons, degL_cons, degL_cons, degL_cons, degL_add (by simpa using h)]
    omega
theorem map_neg_add (a b : List Int) : (List.zipWith (· + ·) a b).map (fun x => -x) = List.zipWith (· + ·) (a.map fun x => -x) (b.map fun x => -x) := by
  induction a generalizing b with
  | nil => simp
  | cons x a ih =>
    cases b with
    | nil => simp
    | cons y b => simp only [List.zipWith_cons_cons, List.map_cons, ih]; congr 1; omega
theorem keyG_add {a b : List Int} (h : a.length = b.length) : keyG (List.zipWith (· + ·) a b) = List.zipWith (· + ·) (keyG a) (keyG b) := by
  unfold keyG
  rw [List.zipWith_cons_cons, degL_add h, ← map_neg_add, List.reverse_zipWith h]
theorem key_add (k : Int) (cut : Nat) {a b : List Int} (h : a.length = b.length) : key k cut (List.zipWith (· + ·) a b) = List.zipWith (· + ·) (key k cut a) (key k cut b) := by
  unfold key
  split
  · rfl
  · split
    · rw [List.zipWith_cons_cons, degL_add h]
    · split
      · exact keyG_add h
      · rw [List.zipWith_append (by simp only [keyG_length, List.length_take, h]), List.take_zipWith, List.drop_zipWith, keyG_add (by simp only [List.length_take, h]), keyG_add (by simp only [List.length_drop, h])]

theorem zipL_zipWith (f : Int → Int → Int) {xs ys : List Int} (h : xs.length = ys.length) : zipL f xs ys = List.zipWith f xs ys := by
  apply ext_getD
  · simp [zipL_length, h]
  · intro k hk
    rw [zipL_length] at hk
    rw [zipL_getD hk, getD_of_lt hk, getD_of_lt (by omega), getD_of_lt (by simp; omega), List.getElem_zipWith]

section
variable {k cut : Int} {xs ys zs : List Int}
theorem cmp_flip (h : xs.length = ys.length) : cmpL k cut ys xs = - cmpL k cut xs ys := by rw [cmpL_key k cut h, cmpL_key k cut h.symm, lexL_flip]
theorem cmp_trans (h : xs.length = ys.length) (h' : ys.length = zs.length) (p : 0 ≤ cmpL k cut xs ys) (q : 0 ≤ cmpL k cut ys zs) : 0 ≤ cmpL k cut xs zs := by
  rw [cmpL_key k cut h] at p
  rw [cmpL_key k cut h'] at q
  rw [cmpL_key k cut (h.trans h')]
  exact lexL_trans (key_length k _ h) (key_length k _ h') p q
theorem cmp_add (h : xs.length = ys.length) (h' : xs.length = zs.length) : cmpL k cut (zipL (fun x y => x + y) xs zs) (zipL (fun x y => x + y) ys zs) = cmpL k cut xs ys := by
  rw [cmpL_key k cut (by rw [zipL_length, zipL_length, h]), cmpL_key k cut h, zipL_zipWith _ h', zipL_zipWith _ (h.symm.trans h'), key_add k _ h', key_add k _ (h.symm.trans h')]
  exact lexL_add (key_length k _ h) (key_length k _ h')
end

/-- Nothing is below 0, which stands below nothing but itself. -/
theorem degL_nonneg : ∀ {a : List Int}, (∀ x ∈ a, 0 ≤ x) → 0 ≤ degL a
  | [], _ => by simp [degL]
  | x :: a, h => by
    rw [degL_cons]
    have := h x (by simp)
    have := degL_nonneg (a := a) (fun y hy => h y (by simp [hy]))
    omega
theorem degL_null : ∀ {a : List Int}, (∀ x ∈ a, 0 ≤ x) → degL a = 0 → a = List.replicate a.length 0
  | [], _, _ => rfl
  | x :: a, h, e => by
    rw [degL_cons] at e
    have h1 := h x (by simp)
    have h2 := degL_nonneg (a := a) (fun y hy => h y (by simp [hy]))
    have h3 : x = 0 := by omega
    have h4 := degL_null (a := a) (fun y hy => h y (by simp [hy])) (by omega)
    rw [h3]
    show _ = List.replicate (a.length + 1) 0
    rw [List.replicate_succ, ← h4]
theorem degL_zeros (n : Nat) : degL (List.replicate n 0) = 0 := by
  induction n with
  | zero => rfl
  | succ n ih => rw [List.replicate_succ, degL_cons, ih]; rfl
theorem lexL_zeros : ∀ {a : List Int}, (∀ x ∈ a, 0 ≤ x) → 0 ≤ lexL a (List.replicate a.length 0)
  | [], _ => by simp [lexL]
  | x :: a, h => by
    show 0 ≤ lexL (x :: a) (List.replicate (a.length + 1) 0)
    rw [List.replicate_succ, lexL_cons]
    have h1 := h x (by simp)
    by_cases e : x = 0
    · rw [if_pos e]; exact lexL_zeros (fun y hy => h y (by simp [hy]))
    · rw [if_neg e, sg_pos]; omega
theorem keyG_zeros {a : List Int} (h : ∀ x ∈ a, 0 ≤ x) : (0 < degL a ∧ lexL (keyG a) (keyG (List.replicate a.length 0)) = 1) ∨ a = List.replicate a.length 0 := by
  by_cases e : degL a = 0
  · exact .inr (degL_null h e)
  · have := degL_nonneg h
    refine .inl ⟨by omega, ?_⟩
    unfold keyG
    rw [lexL_cons, degL_zeros, if_neg e, sg_one (by omega)]
theorem keyG_nonneg {a : List Int} (h : ∀ x ∈ a, 0 ≤ x) : 0 ≤ lexL (keyG a) (keyG (List.replicate a.length 0)) := by
  rcases keyG_zeros h with ⟨_, h1⟩ | h1
  · omega
  · rw [← h1, lexL_self]; omega
theorem cmp_zeros {k cut : Int} {xs : List Int} (h : ∀ x ∈ xs, 0 ≤ x) : 0 ≤ cmpL k cut xs (List.replicate xs.length 0) := by
  rw [cmpL_key k cut (by simp)]
  unfold key
  split
  · exact lexL_zeros h
  · split
    · rw [lexL_cons, degL_zeros]
      have := degL_nonneg h
      split
      · exact lexL_zeros h
      · rw [sg_pos]; omega
    · split
      · exact keyG_nonneg h
      · rw [List.take_replicate, List.drop_replicate, lexL_append _ _ (by simp only [keyG_length, List.length_take, List.length_replicate])]
        have e1 : min cut.toNat xs.length = (xs.take cut.toNat).length := by rw [List.length_take]
        have e2 : xs.length - cut.toNat = (xs.drop cut.toNat).length := by rw [List.length_drop]
        rw [e1, e2]
        split
        · exact keyG_nonneg fun x hx => h x (List.mem_of_mem_drop hx)
        · exact keyG_nonneg fun x hx => h x (List.mem_of_mem_take hx)
theorem lim_mem {m : Int} {xs : List Int} (h : Lim m xs) : ∀ x ∈ xs, 0 ≤ x := by
  intro x hx
  obtain ⟨k, hk, rfl⟩ := List.getElem_of_mem hx
  have := (h.2 k hk).1
  rwa [getD_of_lt hk] at this
theorem keyG_inj {a b : List Int} (h : keyG a = keyG b) : a = b := by
  unfold keyG at h
  injection h with _ h
  have := List.map_inj_right (f := fun x : Int => -x) (fun x y h => by omega) |>.1 h
  exact List.reverse_inj.1 this
theorem key_inj {k : Int} {cut : Nat} {xs ys : List Int} (hl : xs.length = ys.length) (h : key k cut xs = key k cut ys) : xs = ys := by
  unfold key at h
  split at h
  · exact h
  · split at h
    · injection h
    · split at h
      · exact keyG_inj h
      · have := List.append_inj h (by simp only [keyG_length, List.length_take, hl])
        rw [← List.take_append_drop cut xs, ← List.take_append_drop cut ys, keyG_inj this.1, keyG_inj this.2]
theorem cmp_zero {k cut : Int} {xs ys : List Int} (hl : xs.length = ys.length) : cmpL k cut xs ys = 0 ↔ xs = ys := by
  constructor
  · intro h
    rw [cmpL_key k cut hl] at h
    exact key_inj hl (lexL_zero (key_length k _ hl) h)
  · rintro rfl
    rw [cmpL_key k cut rfl, lexL_self]
/-- A multiple isn't less. -/
theorem cmp_multiple {k cut : Int} {xs zs : List Int} (h : xs.length = zs.length) (hz : ∀ z ∈ zs, 0 ≤ z) : 0 ≤ cmpL k cut (zipL (fun x y => x + y) xs zs) xs := by
  have e1 : zipL (fun x y => x + y) xs zs = zipL (fun x y => x + y) zs xs := by
    apply ext_getD (by rw [zipL_length, zipL_length, h])
    intro k hk
    rw [zipL_length] at hk
    rw [zipL_getD hk, zipL_getD (by omega)]
    omega
  have e2 : zipL (fun x y => x + y) (List.replicate zs.length 0) xs = xs := by
    apply ext_getD (by rw [zipL_length, List.length_replicate, h])
    intro k hk
    rw [zipL_length] at hk
    rw [zipL_getD hk]
    have : k < zs.length := by simpa using hk
    simp [List.getD_eq_getElem?_getD, this]
  have := cmp_zeros (k := k) (cut := cut) hz
  rw [← cmp_add (zs := xs) (by simp) h.symm, e2, ← e1] at this
  exact this
end Go.Proofs.Ytflobccekfgiaaa
