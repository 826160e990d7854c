package prime

import (
	"math"
	"math/big"
	"math/rand"
	"testing"

	"algebrist/api"
)

// P5.1
func TestIs(t *testing.T) {
	limit := 20000
	sieve := make([]bool, limit)
	last := -1
	for n := 2; n < limit; n++ {
		if !sieve[n] {
			for m := 2 * n; m < limit; m += n {
				sieve[m] = true
			}
		}
	}
	for n := range limit {
		want := n > 1 && !sieve[n]
		if Is(uint64(n)) != want {
			t.Fatal(n)
		}
		if want {
			for m := max(last, 0); m < n; m++ {
				if p, e := Next(uint64(m)); p != uint64(n) || e != api.OK {
					t.Fatal(m, p)
				}
			}
			last = n
		}
	}
	r := rand.New(rand.NewSource(1))
	for range 2000 {
		n := r.Uint64()>>uint(1+r.Intn(40)) | 1
		if Is(n) != new(big.Int).SetUint64(n).ProbablyPrime(20) {
			t.Fatal(n)
		}
	}
	// Pseudoprimes to many bases, Carmichael numbers, and the ends.
	for _, n := range []uint64{3215031751, 341550071728321, 3825123056546413051, 561, 1 << 63, math.MaxUint64, 1<<63 + 29, 18446744073709551557, 1<<62 - 1} {
		if Is(n) {
			t.Error(n)
		}
	}
	if !Is(1<<61-1) || !Is(9223372036854775783) {
		t.Error("great primes")
	}
	if p, e := Next(1 << 62); e != api.OK || !Is(p) || p <= 1<<62 {
		t.Error(p, e)
	}
	for _, n := range []uint64{1<<62 + 1, math.MaxUint64} {
		if p, e := Next(n); e != api.ErrRange || p != 0 {
			t.Error(p, e)
		}
	}
}

// P5.2
func TestFactor(t *testing.T) {
	r := rand.New(rand.NewSource(2))
	for i := range 400 {
		n := uint64(i + 1)
		if i > 200 {
			n = r.Uint64()>>24 + 1
		}
		p, e, err := Factor(n)
		m := uint64(1)
		for i, q := range p {
			if !Is(q) || e[i] < 1 || i > 0 && q <= p[i-1] {
				t.Fatal(n, p, e)
			}
			for range e[i] {
				m *= q
			}
		}
		if m != n || err != api.OK || len(p) != len(e) {
			t.Fatal(n, p, e)
		}
	}
	if p, _, e := Factor(1 << 40); e != api.OK || len(p) != 1 {
		t.Error(p)
	}
	for _, n := range []uint64{0, 1<<40 + 1, math.MaxUint64} {
		if p, m, e := Factor(n); e != api.ErrRange || len(p)+len(m) != 0 {
			t.Error(n)
		}
	}
}

// P5.3
func TestProve(t *testing.T) {
	for n := range uint64(3000) {
		l, e := Prove(n)
		if Is(n) != (e == api.OK) || e != api.OK && (e != api.ErrPrime || len(l) != 0) {
			t.Fatal(n, e)
		}
		if Is(n) && !Holds(n, l) || Holds(n+1, l) && n != 1 {
			t.Fatal(n)
		}
	}
	for _, n := range []uint64{1099511627689, 999999999989, 2147483647} {
		if l, e := Prove(n); e != api.OK || !Holds(n, l) {
			t.Error(n, e)
		}
	}
	if _, e := Prove(1 << 40); e != api.ErrPrime {
		t.Error(e)
	}
	if _, e := Prove(1<<40 + 1); e != api.ErrRange {
		t.Error(e)
	}
	if _, e := Prove(1<<61 - 1); e != api.ErrRange {
		t.Error(e)
	}
}

func TestHolds(t *testing.T) {
	three := api.PrattStep{N: 3, G: 2, Q: []uint64{2}, E: []int{1}}
	seven := api.PrattStep{N: 7, G: 3, Q: []uint64{2, 3}, E: []int{1, 1}}
	change := func(f func(s *api.PrattStep)) api.PrattStep {
		s := api.PrattStep{N: 7, G: 3, Q: []uint64{2, 3}, E: []int{1, 1}}
		f(&s)
		return s
	}
	for i, x := range []struct {
		n    uint64
		l    []api.PrattStep
		want bool
	}{
		{7, []api.PrattStep{three, seven}, true},
		{7, []api.PrattStep{three, three, seven, seven}, true},
		{2, nil, true}, {3, nil, false}, {1, nil, false}, {2, []api.PrattStep{three}, false},
		{7, []api.PrattStep{seven}, false},
		{7, []api.PrattStep{seven, three}, false},
		{3, []api.PrattStep{three, seven}, false},
		{7, []api.PrattStep{three, change(func(s *api.PrattStep) { s.G = 2 })}, false},
		{7, []api.PrattStep{three, change(func(s *api.PrattStep) { s.G = 10 })}, false},
		{7, []api.PrattStep{three, change(func(s *api.PrattStep) { s.G = 0 })}, false},
		{7, []api.PrattStep{three, change(func(s *api.PrattStep) { s.E = []int{1} })}, false},
		{7, []api.PrattStep{three, change(func(s *api.PrattStep) { s.E = []int{1, 2} })}, false},
		{7, []api.PrattStep{three, change(func(s *api.PrattStep) { s.E = []int{1, 0} })}, false},
		{7, []api.PrattStep{three, change(func(s *api.PrattStep) { s.E = []int{math.MaxInt, 1} })}, false},
		{7, []api.PrattStep{three, change(func(s *api.PrattStep) { s.Q = []uint64{3, 2} })}, false},
		{7, []api.PrattStep{three, change(func(s *api.PrattStep) { s.Q, s.E = []uint64{2}, []int{1} })}, false},
		{7, []api.PrattStep{three, change(func(s *api.PrattStep) { s.Q, s.E = []uint64{6}, []int{1} })}, false},
		{9, []api.PrattStep{{N: 9, G: 2, Q: []uint64{2}, E: []int{3}}}, false},
		{2, []api.PrattStep{{N: 2, G: 1}}, false},
		{1<<63 + 1, []api.PrattStep{{N: 1<<63 + 1, G: 3, Q: []uint64{2}, E: []int{63}}}, false},
		{5, []api.PrattStep{{N: 5, G: 2, Q: []uint64{2, 2}, E: []int{1, 1}}}, false},
		{5, []api.PrattStep{{N: 5, G: 2, Q: []uint64{2}, E: []int{2}}}, true},
		{65537, []api.PrattStep{{N: 65537, G: 3, Q: []uint64{2}, E: []int{16}}}, true},
	} {
		if Holds(x.n, x.l) != x.want {
			t.Error(i)
		}
	}
}

// P5.4
func TestNext31(t *testing.T) {
	mod := new(big.Int).Lsh(big.NewInt(1), 64)
	for _, seed := range []uint64{0, 1, math.MaxUint64, 42} {
		want := new(big.Int).SetUint64(seed)
		want.Mul(want, new(big.Int).SetUint64(6364136223846793005)).Add(want, big.NewInt(1442695040888963407)).Mod(want, mod)
		next, draw := Next31(seed)
		if next != want.Uint64() || uint64(draw) != next/(1<<33) {
			t.Error(seed)
		}
	}
}

// P5.5: no paper shows a composite number, whatever its steps say.
func TestNothingComposite(t *testing.T) {
	for n := uint64(4); n < 400; n++ {
		if Is(n) {
			continue
		}
		q, e, _ := Factor(n - 1)
		var l []api.PrattStep
		for _, p := range q {
			l = prove(l, p)
		}
		for g := uint64(0); g <= n; g++ {
			if Holds(n, append(l[:len(l):len(l)], api.PrattStep{N: n, G: g, Q: q, E: e})) {
				t.Fatal(n, g)
			}
		}
	}
}

// A prime from 2^63 on has no paper, though all else is right.
func TestTooGreat(t *testing.T) {
	found := 0
	for k := uint64(1); k < 512 && found < 6; k++ {
		n := k<<55 + 1
		if !new(big.Int).SetUint64(n).ProbablyPrime(20) {
			continue
		}
		q, e, _ := Factor(k << 20)
		e[0] += 35
		var l []api.PrattStep
		for _, p := range q {
			l = prove(l, p)
		}
		g := uint64(2)
		for !generates(g, n, q) {
			g++
		}
		l = append(l, api.PrattStep{N: n, G: g, Q: q, E: e})
		if Holds(n, l) != (n < 1<<63) {
			t.Error(n)
		}
		if n >= 1<<63 {
			found++
		}
	}
	if found == 0 {
		t.Error("none")
	}
}
