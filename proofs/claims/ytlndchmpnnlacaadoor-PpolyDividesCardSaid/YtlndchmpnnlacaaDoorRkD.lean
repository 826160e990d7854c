/- A reckoning that leaves no composite number below 2^32 which passes Miller and Rabin's test to the bases 2 to 37: what is reckoned. No condition. -/
import Derived.Test.YtlndchmpnnlacaaDoorFermat
namespace Go.Proofs.YtlndchmpnnlacaaDoor
open Go.RowKit

/-- product of the primes below 256 -/
def sieveA : Nat := 64266330917908644872330635228106713310880186591609208114244758680898150367880703152525200743234420230
def others : List Nat := [5, 7, 11, 13, 17, 19, 23, 29, 31, 37]
def goG (P e : Nat) : List Nat → Nat → Bool
  | [], G => Nat.beq (Nat.mod (Nat.pow (Nat.mod P G) 8) G) 0
  | b :: bs, G => match Nat.beq (Nat.mod (Nat.pow (Nat.mod P G) 8) G) 0 with
    | true => true
    | false => match Nat.gcd G (Nat.sub (Nat.pow b e) 1) with
      | 0 => false
      | H + 1 => goG P e bs (Nat.succ H)
def atA (P p G : Nat) : Bool := match Nat.beq (Nat.mod G (Nat.mul p p)) 0 with
  | true => false
  | false => goG P (Nat.sub p 1) others G
def onA (P p : Nat) : Bool := match Nat.gcd (Nat.sub (Nat.pow 2 (Nat.sub p 1)) 1) (Nat.sub (Nat.pow 3 (Nat.sub p 1)) 1) with
  | 0 => false
  | H + 1 => atA P p (Nat.succ H)
/-- walks the odd numbers from p on, k of them; P: the product of the numbers shown so far; S: what a prime has no part in -/
def goA (S : Nat) : Nat → Nat → Nat → Bool
  | 0, _, _ => true
  | k + 1, p, P => match Nat.beq (Nat.gcd p S) 1 with
    | false => (match Nat.add p 2 with
      | 0 => false
      | q + 1 => goA S k (Nat.succ q) P)
    | true => match Nat.mul P p with
      | 0 => false
      | Q + 1 => match onA (Nat.succ Q) p with
        | false => false
        | true => (match Nat.add p 2 with
          | 0 => false
          | q + 1 => goA S k (Nat.succ q) (Nat.succ Q))



def bs12 : List Nat := [2, 3, 5, 7, 11, 13, 17, 19, 23, 29, 31, 37]
/-- b^e mod n, six bits of e at a time -/
def pm (b n : Nat) : Nat → Nat → Nat
  | 0, e => Nat.mod (Nat.pow b e) n
  | k + 1, e => Nat.mod (Nat.mul (Nat.pow (pm b n k (Nat.div e 64)) 64) (Nat.pow b (Nat.mod e 64))) n
def pm2 (n e : Nat) : Nat := (Nat.mod (Nat.mul (Nat.pow (Nat.mod (Nat.mul (Nat.pow (Nat.mod (Nat.mul (Nat.pow (Nat.mod (Nat.mul (Nat.pow (Nat.mod (Nat.mul (Nat.pow (Nat.mod (Nat.pow 2 (Nat.div (Nat.div (Nat.div (Nat.div (Nat.div e 64) 64) 64) 64) 64)) n) 64) (Nat.pow 2 (Nat.mod (Nat.div (Nat.div (Nat.div (Nat.div e 64) 64) 64) 64) 64))) n) 64) (Nat.pow 2 (Nat.mod (Nat.div (Nat.div (Nat.div e 64) 64) 64) 64))) n) 64) (Nat.pow 2 (Nat.mod (Nat.div (Nat.div e 64) 64) 64))) n) 64) (Nat.pow 2 (Nat.mod (Nat.div e 64) 64))) n) 64) (Nat.pow 2 (Nat.mod e 64))) n)
/-- the strong condition, from e downwards: b^e is 1 -/
def down (b n : Nat) : Nat → Nat → Bool
  | 0, _ => true
  | k + 1, e => match Nat.beq (Nat.mod e 2) 0 with
    | false => true
    | true => match pm b n 5 (Nat.div e 2) with
      | x => match Nat.beq x 1 with
        | true => down b n k (Nat.div e 2)
        | false => Nat.beq x (Nat.sub n 1)
def strong (b n : Nat) : Bool := match Nat.beq (pm b n 5 (Nat.sub n 1)) 1 with
  | false => false
  | true => down b n 40 (Nat.sub n 1)
def strongs (n : Nat) : List Nat → Bool
  | [] => true
  | b :: bs => match strong b n with
    | false => false
    | true => strongs n bs
def primA : Nat := 7420738134810
/-- s runs by L up to M: p * q * s is no candidate -/
def goS (pq q L M : Nat) : Nat → Nat → Bool
  | 0, _ => false
  | k + 1, s => match Nat.ble s M with
    | false => true
    | true => match (match Nat.ble s q with
        | true => true
        | false => match Nat.beq (Nat.gcd s primA) 1 with
          | false => true
          | true => match Nat.mul pq s with
            | 0 => false
            | n + 1 => match Nat.beq (pm2 (Nat.succ n) n) 1 with
              | false => true
              | true => match strongs (Nat.succ n) bs12 with
                | true => false
                | false => true) with
      | false => false
      | true => match Nat.add s L with
        | 0 => false
        | t + 1 => goS pq q L M k (Nat.succ t)
/-- Euclid: the inverse of r1's start modulo L -/
def inv (L : Nat) : Nat → Bool → Nat → Nat → Nat → Nat → Nat
  | 0, _, _, _, _, _ => 0
  | k + 1, sg, r0, r1, t0, t1 => match Nat.mod r0 r1 with
    | 0 => match sg with
      | true => t1
      | false => Nat.sub L t1
    | r + 1 => match Nat.add t0 (Nat.mul (Nat.div r0 r1) t1) with
      | 0 => 0
      | t + 1 => inv L k (not sg) r1 (Nat.succ r) t1 (Nat.succ t)
def onS (pq q L u : Nat) : Bool := match Nat.beq (Nat.gcd u L) 1 with
  | false => true
  | true => match Nat.mod (inv L 60 true L u 0 1) L with
    | 0 => false
    | v + 1 => match Nat.beq (Nat.mod (Nat.mul u (Nat.succ v)) L) 1 with
      | false => false
      | true => match Nat.div 4294967295 pq with
        | 0 => true
        | M + 1 => goS pq q L (Nat.succ M) 20000 (Nat.succ v)
def onPQ (p q : Nat) : Bool := match Nat.mul p q with
  | 0 => false
  | u + 1 => match Nat.div (Nat.mul (Nat.sub p 1) (Nat.sub q 1)) (Nat.gcd (Nat.sub p 1) (Nat.sub q 1)) with
    | 0 => false
    | L + 1 => match Nat.mod (Nat.succ u) (Nat.succ L) with
      | 0 => true
      | x + 1 => onS (Nat.succ u) q (Nat.succ L) (Nat.succ x)
def sieveB : Nat := 232862364358497360900063316880507363070
def may (q : Nat) : Bool := match Nat.ble q 101 with
  | true => Nat.beq (Nat.gcd q 30030) 1
  | false => Nat.beq (Nat.gcd q sieveB) 1
def goQ (p : Nat) : Nat → Nat → Bool
  | 0, _ => false
  | k + 1, q => match Nat.ble (Nat.mul p (Nat.mul q q)) 4294967295 with
    | false => true
    | true => match (match may q with
        | false => true
        | true => onPQ p q) with
      | false => false
      | true => match Nat.add q 2 with
        | 0 => false
        | r + 1 => goQ p k (Nat.succ r)
/-- odd p from p on, k of them -/
def goP : Nat → Nat → Bool
  | 0, _ => true
  | k + 1, p => match (match may p with
        | false => true
        | true => goQ p 6000 (Nat.add p 2)) with
      | false => false
      | true => match Nat.add p 2 with
        | 0 => false
        | r + 1 => goP k (Nat.succ r)
/-- the bs12 generate -/
def anyB (q d : Nat) : List Nat → Bool
  | [] => false
  | b :: bs => match Nat.beq (Nat.mod (Nat.pow b d) q) 1 with
    | false => true
    | true => anyB q d bs
def genD (q : Nat) : Nat → Bool
  | 0 => true
  | k + 1 => match Nat.beq (Nat.mod (Nat.sub q 1) (Nat.succ k)) 0 with
    | false => genD q k
    | true => match (match Nat.ble (Nat.sub q 1) (Nat.succ k) with
        | true => true
        | false => anyB q (Nat.succ k) bs12) with
      | false => false
      | true => match (match Nat.ble (Nat.succ k) 1 with
        | true => true
        | false => anyB q (Nat.div (Nat.sub q 1) (Nat.succ k)) bs12) with
        | false => false
        | true => genD q k
def goC : Nat → Nat → Bool
  | 0, _ => true
  | k + 1, q => match (match may q with
        | false => true
        | true => genD q 102) with
      | false => false
      | true => match Nat.add q 2 with
        | 0 => false
        | r + 1 => goC k (Nat.succ r)
end Go.Proofs.YtlndchmpnnlacaaDoor
