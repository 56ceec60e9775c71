package poly_test

import (
	"math"
	"math/big"
	"math/rand/v2"
	"slices"
	"testing"

	"amphora/api"
	"amphora/poly"
)

// A second account of polynomials: their bits in the library's great numbers, of any degree, gone through one by one.

func great(words ...uint64) *big.Int {
	out := new(big.Int)
	for _, w := range words {
		out.Lsh(out, 64)
		out.Or(out, new(big.Int).SetUint64(w))
	}
	return out
}

func greatMul(a, b *big.Int) *big.Int {
	out := new(big.Int)
	for i := range b.BitLen() {
		if b.Bit(i) == 1 {
			out.Xor(out, new(big.Int).Lsh(a, uint(i)))
		}
	}
	return out
}

func greatMod(p, m *big.Int) *big.Int {
	out, d := new(big.Int).Set(p), m.BitLen()-1
	for i := out.BitLen() - 1; i >= d; i-- {
		if out.Bit(i) == 1 {
			out.Xor(out, new(big.Int).Lsh(m, uint(i-d)))
		}
	}
	return out
}

func divides(m, p uint64) bool {
	if m == 0 {
		return p == 0
	}
	return greatMod(great(p), great(m)).Sign() == 0
}

// product is the lower bits of a product that has no upper ones.
func product(t *testing.T, a, b uint64) uint64 {
	t.Helper()
	hi, lo := poly.Mul(a, b)
	if hi != 0 {
		t.Fatalf("Mul(%x, %x): upper bits %x", a, b, hi)
	}
	return lo
}

func mod(t *testing.T, hi, lo, m uint64) uint64 {
	t.Helper()
	r, err := poly.Mod(hi, lo, m)
	if err != nil {
		t.Fatalf("Mod(%x, %x, %x): %v", hi, lo, m, err)
	}
	return r
}

func mulMod(t *testing.T, m uint64, factors ...uint64) uint64 {
	t.Helper()
	r, err := poly.MulMod(m, factors...)
	if err != nil {
		t.Fatalf("MulMod(%x, %x): %v", m, factors, err)
	}
	return r
}

func power(t *testing.T, n int, m uint64) uint64 {
	t.Helper()
	r, err := poly.Power(n, m)
	if err != nil {
		t.Fatalf("Power(%d, %x): %v", n, m, err)
	}
	return r
}

// random is a polynomial of any degree, the lesser ones as likely as the greater.
func random(r *rand.Rand) uint64 {
	return r.Uint64() >> r.IntN(65)
}

func nonzero(r *rand.Rand) uint64 {
	return (r.Uint64() | 1<<63) >> r.IntN(64)
}

// edges are the words at which shifts and borders of words go wrong first.
func edges() []uint64 {
	out := []uint64{0, 3, 5, 6, 0x13, 0x11b, 0x3da3358b4dc173, 1<<63 | 1, 1<<63 | 3, math.MaxUint64, math.MaxUint64 - 1, math.MaxInt64, 1<<32 - 1, 1<<32 | 1}
	for i := range 64 {
		out = append(out, 1<<i)
	}
	return out
}

// P6.1

func TestExamples(t *testing.T) {
	for p, want := range map[uint64]int{0: -1, 1: 0, 0x13: 4} {
		if got := poly.Deg(p); got != want {
			t.Error(p, got)
		}
	}
	if hi, lo := poly.Mul(3, 3); hi != 0 || lo != 5 {
		t.Error(hi, lo)
	}
	if hi, lo := poly.Mul(1<<63, 4); hi != 2 || lo != 0 {
		t.Error(hi, lo)
	}
	for _, c := range []struct{ got, want uint64 }{
		{mod(t, 0, 0x1b, 0x13), 8},
		{mulMod(t, 0x11b, 0x57, 0x83), 0xc1},
		{mulMod(t, 1), 0},
		{mulMod(t, 0x13), 1},
		{poly.Gcd(6, 5), 3},
		{power(t, 4, 0x13), 3},
	} {
		if c.got != c.want {
			t.Errorf("answered %x, not %x", c.got, c.want)
		}
	}
	for _, p := range []uint64{2, 3, 7, 0x13, 0x11b, 0x3da3358b4dc173} {
		if !poly.Irreducible(p) {
			t.Errorf("%x isn't irreducible", p)
		}
	}
	for _, p := range []uint64{0, 1, 5, 0x11, 0x3da3358b4dc172} {
		if poly.Irreducible(p) {
			t.Errorf("%x is irreducible", p)
		}
	}
}

func TestDeg(t *testing.T) {
	for i := range 64 {
		for _, p := range []uint64{1 << i, 1<<i | 1, math.MaxUint64 >> (63 - i)} {
			if got := poly.Deg(p); got != i {
				t.Errorf("Deg(%x): answered %d, not %d", p, got, i)
			}
		}
	}
}

func TestSum(t *testing.T) {
	for _, c := range []struct {
		parts []uint64
		want  uint64
	}{
		{nil, 0},
		{[]uint64{}, 0},
		{[]uint64{0}, 0},
		{[]uint64{7}, 7},
		{[]uint64{7, 7}, 0},
		{[]uint64{7, 7, 7}, 7},
		{[]uint64{12, 10}, 6},
		{[]uint64{1 << 63, 1, math.MaxUint64}, math.MaxInt64 - 1},
		{[]uint64{1, 2, 4, 8, 16, 1 << 40}, 31 | 1<<40},
	} {
		if got := poly.Sum(c.parts...); got != c.want {
			t.Errorf("Sum(%x): answered %x, not %x", c.parts, got, c.want)
		}
	}
}

func checkMul(t *testing.T, a, b uint64) {
	t.Helper()
	hi, lo := poly.Mul(a, b)
	if want := greatMul(great(a), great(b)); great(hi, lo).Cmp(want) != 0 {
		t.Fatalf("Mul(%x, %x): answered %x, %x, not %x", a, b, hi, lo, want)
	}
}

func TestMul(t *testing.T) {
	for _, a := range edges() {
		for _, b := range edges() {
			checkMul(t, a, b)
		}
	}
	r := rand.New(rand.NewPCG(6, 1))
	for range 5000 {
		checkMul(t, random(r), random(r))
	}
}

func checkMod(t *testing.T, hi, lo, m uint64) {
	t.Helper()
	got := mod(t, hi, lo, m)
	if want := greatMod(great(hi, lo), great(m)); great(got).Cmp(want) != 0 {
		t.Fatalf("Mod(%x, %x, %x): answered %x, not %x", hi, lo, m, got, want)
	}
}

func TestMod(t *testing.T) {
	some := []uint64{0, 1, 2, 3, 1 << 31, 1 << 32, 1 << 62, 1 << 63, 1<<63 | 1, math.MaxUint64}
	for _, m := range edges() {
		if m == 0 {
			continue
		}
		for _, hi := range some {
			for _, lo := range append(some, m, m^1, m<<1) {
				checkMod(t, hi, lo, m)
			}
		}
	}
	for lo := range uint64(256) {
		for m := uint64(1); m < 64; m++ {
			checkMod(t, 0, lo, m)
		}
	}
	r := rand.New(rand.NewPCG(6, 2))
	for range 5000 {
		checkMod(t, random(r), random(r), nonzero(r))
	}
}

func checkMulMod(t *testing.T, m uint64, factors ...uint64) {
	t.Helper()
	all := great(1)
	for _, f := range factors {
		all = greatMul(all, great(f))
	}
	got := mulMod(t, m, factors...)
	if want := greatMod(all, great(m)); great(got).Cmp(want) != 0 {
		t.Fatalf("MulMod(%x, %x): answered %x, not %x", m, factors, got, want)
	}
}

func TestMulMod(t *testing.T) {
	for _, m := range edges() {
		if m == 0 {
			continue
		}
		checkMulMod(t, m)
		checkMulMod(t, m, 0)
		checkMulMod(t, m, m)
		checkMulMod(t, m, math.MaxUint64)
		checkMulMod(t, m, math.MaxUint64, math.MaxUint64, 1<<63, 1<<63|1, math.MaxUint64)
		checkMulMod(t, m, 3, 0, 5)
	}
	r := rand.New(rand.NewPCG(6, 3))
	for n := range 2000 {
		factors := make([]uint64, n%9)
		for i := range factors {
			factors[i] = random(r)
		}
		checkMulMod(t, nonzero(r), factors...)
	}
}

// greatest is the greatest common divisor of small parts, looked for among all.
func greatest(parts []uint64) uint64 {
	for g := uint64(63); g > 0; g-- {
		if !slices.ContainsFunc(parts, func(p uint64) bool { return !divides(g, p) }) {
			return g
		}
	}
	return 0
}

func TestGcdOfSmallParts(t *testing.T) {
	for a := range uint64(64) {
		if got := poly.Gcd(a); got != a {
			t.Fatalf("Gcd(%x): answered %x", a, got)
		}
		for b := range uint64(64) {
			for _, parts := range [][]uint64{{a, b}, {a, 0, b, 36}} {
				want := greatest(parts)
				if a == 0 && b == 0 && len(parts) == 2 {
					want = 0
				}
				if got := poly.Gcd(parts...); got != want {
					t.Fatalf("Gcd(%x): answered %x, not %x", parts, got, want)
				}
			}
		}
	}
}

func TestGcdOfNoneAndOfZeros(t *testing.T) {
	for _, parts := range [][]uint64{nil, {}, {0}, {0, 0}, {0, 0, 0}} {
		if got := poly.Gcd(parts...); got != 0 {
			t.Errorf("Gcd(%x): answered %x", parts, got)
		}
	}
	for _, p := range edges() {
		for _, parts := range [][]uint64{{p}, {p, p}, {0, p}, {p, 0}, {0, p, 0, p, 0}} {
			if got := poly.Gcd(parts...); got != p {
				t.Errorf("Gcd(%x): answered %x", parts, got)
			}
		}
		if got := poly.Gcd(p, 1); got != 1 {
			t.Errorf("Gcd(%x, 1): answered %x", p, got)
		}
	}
}

// What is common to a times g and b times g is g times what is common to a and b.
func TestGcdOfMultiples(t *testing.T) {
	r := rand.New(rand.NewPCG(6, 4))
	for range 5000 {
		a, b, c, g := nonzero(r)>>32, nonzero(r)>>32, nonzero(r)>>32, nonzero(r)>>32
		want := product(t, g, poly.Gcd(a, b, c))
		if got := poly.Gcd(product(t, a, g), product(t, b, g), product(t, c, g)); got != want {
			t.Fatalf("Gcd of %x, %x, %x times %x: answered %x, not %x", a, b, c, g, got, want)
		}
	}
}

func TestPowerOfSmallNumbers(t *testing.T) {
	r := rand.New(rand.NewPCG(6, 5))
	moduli := edges()[1:]
	for range 40 {
		moduli = append(moduli, nonzero(r))
	}
	for _, m := range moduli {
		want := greatMod(great(1), great(m))
		for n := range 200 {
			if got := power(t, n, m); great(got).Cmp(want) != 0 {
				t.Fatalf("Power(%d, %x): answered %x, not %x", n, m, got, want)
			}
			want = greatMod(want.Lsh(want, 1), great(m))
		}
	}
}

// slowPower takes the bits of n from the highest on, on great numbers.
func slowPower(n int, m uint64) *big.Int {
	out := great(1)
	for i := 62; i >= 0; i-- {
		out = greatMod(greatMul(out, out), great(m))
		if n>>i&1 == 1 {
			out.Lsh(out, 1)
		}
	}
	return greatMod(out, great(m))
}

func TestPowerOfGreatNumbers(t *testing.T) {
	r := rand.New(rand.NewPCG(6, 6))
	for range 300 {
		n, m := int(r.Uint64()>>1>>r.IntN(63)), nonzero(r)
		if got, want := power(t, n, m), slowPower(n, m); great(got).Cmp(want) != 0 {
			t.Fatalf("Power(%d, %x): answered %x, not %x", n, m, got, want)
		}
	}
	for _, m := range edges()[1:] {
		for _, n := range []int{math.MaxInt, math.MaxInt - 1, 1 << 62} {
			if got, want := power(t, n, m), slowPower(n, m); great(got).Cmp(want) != 0 {
				t.Fatalf("Power(%d, %x): answered %x, not %x", n, m, got, want)
			}
		}
	}
	// By an irreducible m of degree 63 all but 0 have the power 2^63 - 1 in common: it is 1.
	if got := power(t, math.MaxInt, 1<<63|3); got != 1 {
		t.Errorf("answered %x", got)
	}
}

func refused(t *testing.T, what string, r uint64, err error, want error) {
	t.Helper()
	if r != 0 || err != want {
		t.Errorf("%s: answered %x, %v, not %v", what, r, err, want)
	}
}

func TestRefusals(t *testing.T) {
	for _, p := range []uint64{0, 1, math.MaxUint64} {
		r, err := poly.Mod(p, 5, 0)
		refused(t, "Mod", r, err, api.ErrPoly)
		r, err = poly.Mod(5, p, 0)
		refused(t, "Mod", r, err, api.ErrPoly)
		r, err = poly.MulMod(0, p)
		refused(t, "MulMod", r, err, api.ErrPoly)
		r, err = poly.MulMod(0, 3, p)
		refused(t, "MulMod", r, err, api.ErrPoly)
	}
	r, err := poly.MulMod(0)
	refused(t, "MulMod of none", r, err, api.ErrPoly)
	for _, n := range []int{0, 1, math.MaxInt, -1, math.MinInt} {
		r, err = poly.Power(n, 0)
		refused(t, "Power by 0", r, err, api.ErrPoly)
	}
	for _, n := range []int{-1, -2, math.MinInt} {
		for _, m := range []uint64{1, 2, 0x11b, math.MaxUint64} {
			r, err = poly.Power(n, m)
			refused(t, "Power below 0", r, err, api.ErrRange)
		}
	}
}

func TestArgumentsStayAsTheyAre(t *testing.T) {
	whole := []uint64{0x57, 0x83, 1 << 63, 0, math.MaxUint64, 0xee, 0xee}
	was, parts := slices.Clone(whole), whole[:5]
	for range 2 {
		if got := poly.Sum(parts...); got != 0x57^0x83^math.MaxInt64 {
			t.Errorf("Sum: answered %x", got)
		}
		if got := poly.Gcd(parts...); got != 1 {
			t.Errorf("Gcd: answered %x", got)
		}
		if got := mulMod(t, 0x11b, parts[:2]...); got != 0xc1 {
			t.Errorf("MulMod: answered %x", got)
		}
		if _, err := poly.MulMod(0, parts...); err != api.ErrPoly {
			t.Error(err)
		}
	}
	if !slices.Equal(whole, was) {
		t.Errorf("%x", whole)
	}
}

// P6.1 of Irreducible

// sieve tells of each polynomial below 2^(most+1) whether it is the product of two of degree 1 or more.
func sieve(most int) []bool {
	products := make([]bool, 1<<(most+1))
	for a := uint64(2); poly.Deg(a) <= most/2; a++ {
		if products[a] {
			continue
		}
		for b := a; poly.Deg(a)+poly.Deg(b) <= most; b++ {
			products[greatMul(great(a), great(b)).Uint64()] = true
		}
	}
	return products
}

func TestIrreducibleOfSmallDegrees(t *testing.T) {
	for p, product := range sieve(13) {
		if got := poly.Irreducible(uint64(p)); got != (p >= 2 && !product) {
			t.Fatalf("Irreducible(%x): answered %v", p, got)
		}
	}
}

func TestHowManyAreIrreducible(t *testing.T) {
	counts := [18]int{}
	for p := range uint64(1 << 18) {
		if poly.Irreducible(p) {
			counts[poly.Deg(p)]++
		}
	}
	if counts != [18]int{0, 2, 1, 2, 3, 6, 9, 18, 30, 56, 99, 186, 335, 630, 1161, 2182, 4080, 7710} {
		t.Error(counts)
	}
}

// One irreducible polynomial of each degree from 2 on: x to it, and the least that makes it so.
func TestLeastIrreducibleOfEachDegree(t *testing.T) {
	least := []uint64{3, 3, 3, 5, 3, 3, 0x1b, 3, 9, 5, 9, 0x1b, 0x21, 3, 0x2b, 9, 9, 0x27, 9, 5, 3, 0x21, 0x1b, 9, 0x1b, 0x27, 3, 5, 3, 9, 0x8d,
		0x4b, 0x1b, 5, 0x35, 0x3f, 0x63, 0x11, 0x39, 9, 0x27, 0x59, 0x21, 0x1b, 3, 0x21, 0x2d, 0x71, 0x1d, 0x4b, 9, 0x47, 0x7d, 0x47, 0x95, 0x11, 0x63, 0x7b, 3, 0x27, 0x69, 3}
	for i, want := range least {
		p := uint64(1) << (i + 2)
		for !poly.Irreducible(p) {
			p++
		}
		if got := p ^ 1<<(i+2); got != want {
			t.Errorf("degree %d: answered %x, not %x", i+2, got, want)
		}
	}
}

func someIrreducible(r *rand.Rand, degree int) uint64 {
	for {
		p := r.Uint64()>>(63-degree) | 1<<degree
		if poly.Irreducible(p) {
			return p
		}
	}
}

// Factors of all degrees, also two of half the degree each, and squares: the latter have less in common with others.
func TestProductsAreReducible(t *testing.T) {
	r := rand.New(rand.NewPCG(6, 7))
	for a := 1; a <= 62; a++ {
		for b := a; a+b <= 63; b++ {
			p, q := someIrreducible(r, a), someIrreducible(r, b)
			if both := product(t, p, q); poly.Irreducible(both) {
				t.Errorf("Irreducible(%x), which is %x times %x", both, p, q)
			}
		}
		if a <= 31 {
			p := someIrreducible(r, a)
			if square := product(t, p, p); poly.Irreducible(square) {
				t.Errorf("Irreducible(%x), which is %x squared", square, p)
			}
		}
	}
	for range 2000 {
		a := 1 + r.IntN(62)
		p, q := r.Uint64()>>(63-a)|1<<a, r.Uint64()>>(a+r.IntN(63-a))|2
		if poly.Irreducible(product(t, p, q)) {
			t.Errorf("Irreducible of %x times %x", p, q)
		}
	}
}

func TestIrreducibleByTrial(t *testing.T) {
	r := rand.New(rand.NewPCG(6, 8))
	for range 300 {
		p := uint64(r.Uint32()>>r.IntN(20))>>8 | 0x800
		prime := true
		for q := uint64(2); 2*poly.Deg(q) <= poly.Deg(p) && prime; q++ {
			prime = !divides(q, p)
		}
		if got := poly.Irreducible(p); got != prime {
			t.Fatalf("Irreducible(%x): answered %v", p, got)
		}
	}
}

// P6.2

func TestProductsAreCommutative(t *testing.T) {
	r := rand.New(rand.NewPCG(6, 9))
	for range 5000 {
		a, b := random(r), random(r)
		hi, lo := poly.Mul(a, b)
		if high, low := poly.Mul(b, a); hi != high || lo != low {
			t.Fatalf("Mul(%x, %x): %x, %x; turned: %x, %x", a, b, hi, lo, high, low)
		}
	}
}

func TestProductsAreAssociative(t *testing.T) {
	r := rand.New(rand.NewPCG(6, 10))
	for range 3000 {
		a, b, c := random(r)>>32, random(r)>>32, random(r)>>32
		hi, lo := poly.Mul(product(t, a, b), c)
		if high, low := poly.Mul(a, product(t, b, c)); hi != high || lo != low {
			t.Fatalf("%x, %x, %x: %x, %x and %x, %x", a, b, c, hi, lo, high, low)
		}
	}
	for range 3000 {
		m, a, b, c := nonzero(r), random(r), random(r), random(r)
		want := mulMod(t, m, a, b, c)
		for _, got := range []uint64{
			mulMod(t, m, c, a, b), mulMod(t, m, b, a, c), mulMod(t, m, c, b, a),
			mulMod(t, m, mulMod(t, m, a, b), c), mulMod(t, m, a, mulMod(t, m, b, c)),
			mulMod(t, m, a, 1, b, c, 1),
		} {
			if got != want {
				t.Fatalf("MulMod by %x of %x, %x, %x: %x and %x", m, a, b, c, want, got)
			}
		}
	}
}

func TestProductsAreDistributive(t *testing.T) {
	r := rand.New(rand.NewPCG(6, 11))
	for range 5000 {
		a, b, c := random(r), random(r), random(r)
		hi, lo := poly.Mul(a, poly.Sum(b, c))
		hiB, loB := poly.Mul(a, b)
		hiC, loC := poly.Mul(a, c)
		if hi != poly.Sum(hiB, hiC) || lo != poly.Sum(loB, loC) {
			t.Fatalf("%x times the sum of %x and %x", a, b, c)
		}
		m := nonzero(r)
		if mulMod(t, m, a, poly.Sum(b, c)) != poly.Sum(mulMod(t, m, a, b), mulMod(t, m, a, c)) {
			t.Fatalf("%x times the sum of %x and %x by %x", a, b, c, m)
		}
	}
}

func TestRemaindersDifferByMultiples(t *testing.T) {
	r := rand.New(rand.NewPCG(6, 12))
	for range 5000 {
		hi, lo, m := random(r), random(r), nonzero(r)
		rest := mod(t, hi, lo, m)
		if poly.Deg(rest) >= poly.Deg(m) {
			t.Fatalf("Mod(%x, %x, %x) = %x", hi, lo, m, rest)
		}
		if greatMod(great(hi, lo^rest), great(m)).Sign() != 0 {
			t.Fatalf("Mod(%x, %x, %x) = %x: no multiple between them", hi, lo, m, rest)
		}
		// A multiple of m more changes nothing, and what is there already stays.
		top, low := poly.Mul(m, random(r))
		if mod(t, hi^top, lo^low, m) != rest || mod(t, top, low, m) != 0 || mod(t, 0, rest, m) != rest {
			t.Fatalf("multiples of %x", m)
		}
	}
}

func TestPowersAddUp(t *testing.T) {
	r := rand.New(rand.NewPCG(6, 13))
	for range 1000 {
		a, b, m := int(r.Uint64()>>2>>r.IntN(62)), int(r.Uint64()>>2>>r.IntN(62)), nonzero(r)
		if power(t, a+b, m) != mulMod(t, m, power(t, a, m), power(t, b, m)) {
			t.Fatalf("powers %d and %d by %x", a, b, m)
		}
	}
}

func TestGcdDividesItsParts(t *testing.T) {
	r := rand.New(rand.NewPCG(6, 14))
	for n := range 3000 {
		common, parts := nonzero(r)>>48, make([]uint64, 1+n%6)
		for i := range parts {
			parts[i] = product(t, common, random(r)>>16)
		}
		g := poly.Gcd(parts...)
		for _, p := range append(parts, 0) {
			if !divides(g, p) {
				t.Fatalf("Gcd(%x) = %x, which doesn't divide %x", parts, g, p)
			}
		}
		if !divides(common, g) {
			t.Fatalf("Gcd(%x) = %x, which %x doesn't divide", parts, g, common)
		}
		turned := slices.Clone(parts)
		r.Shuffle(len(turned), func(i, j int) { turned[i], turned[j] = turned[j], turned[i] })
		if poly.Gcd(turned...) != g {
			t.Fatalf("Gcd(%x) = %x, in another order %x", parts, g, poly.Gcd(turned...))
		}
	}
}
