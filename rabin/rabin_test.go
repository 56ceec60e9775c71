package rabin_test

import (
	"bytes"
	"math"
	"math/big"
	"math/rand/v2"
	"slices"
	"testing"

	"amphora/api"
	"amphora/poly"
	"amphora/rabin"
)

// A second account: rows of bytes as the library's great numbers, whose remainders are worked out bit by bit, and cuts as the chapter words them, each window anew.

func slowPrint(p uint64, row []byte) uint64 {
	rest, m := new(big.Int).SetBytes(row), new(big.Int).SetUint64(p)
	d := m.BitLen() - 1
	for i := rest.BitLen() - 1; i >= d; i-- {
		if rest.Bit(i) == 1 {
			rest.Xor(rest, new(big.Int).Lsh(m, uint(i-d)))
		}
	}
	return rest.Uint64()
}

func slowEnd(s api.Settings, chunk []byte) bool {
	if len(chunk) < s.Min {
		return false
	}
	if len(chunk) == s.Max {
		return true
	}
	window := slowPrint(s.Poly, chunk[len(chunk)-s.Window:])
	for i := range s.Bits {
		if window>>i&1 == 0 {
			return false
		}
	}
	return true
}

func slowCut(s api.Settings, data []byte) [][]byte {
	var out [][]byte
	for len(data) > 0 {
		n := 1
		for n < len(data) && !slowEnd(s, data[:n]) {
			n++
		}
		out = append(out, data[:n])
		data = data[n:]
	}
	return out
}

func lens(chunks [][]byte) []int {
	var out []int
	for _, c := range chunks {
		out = append(out, len(c))
	}
	return out
}

func cut(t *testing.T, s api.Settings, data []byte) []int {
	t.Helper()
	out, err := rabin.Cut(s, data)
	if err != nil {
		t.Fatalf("Cut by %+v: %v", s, err)
	}
	return out
}

func chunker(t *testing.T, s api.Settings) *rabin.Chunker {
	t.Helper()
	c, err := rabin.New(s)
	if err != nil || c == nil {
		t.Fatalf("New of %+v: %v, %v", s, c, err)
	}
	return c
}

func print(t *testing.T, p uint64, parts ...[]byte) uint64 {
	t.Helper()
	out, err := rabin.Print(p, parts...)
	if err != nil {
		t.Fatalf("Print by %x: %v", p, err)
	}
	return out
}

func same(a, b [][]byte) bool {
	return slices.EqualFunc(a, b, bytes.Equal)
}

// irreducible is some irreducible polynomial of a degree.
func irreducible(r *rand.Rand, degree int) uint64 {
	for {
		p := r.Uint64()>>(63-degree) | 1<<degree
		if poly.Irreducible(p) {
			return p
		}
	}
}

// settings are some good ones, with small numbers, so that a short row has many chunks.
func settings(r *rand.Rand) api.Settings {
	s := api.Settings{Poly: irreducible(r, 8+r.IntN(48)), Window: 1 + r.IntN(12)}
	if r.IntN(8) == 0 {
		s.Window = 1 + r.IntN(api.MaxWindow)
	}
	s.Min = s.Window + r.IntN(2)*r.IntN(20)
	s.Max = s.Min + r.IntN(100)
	s.Bits = r.IntN(7)
	return s
}

// row is some bytes; at times of few kinds, so that windows come again, or all of one.
func row(r *rand.Rand, n int) []byte {
	kinds := []int{256, 256, 2, 1}[r.IntN(4)]
	first := r.IntN(256)
	out := make([]byte, n)
	for i := range out {
		out[i] = byte(first + r.IntN(kinds))
	}
	return out
}

// pieces cuts a row in parts, some of them empty or nil.
func pieces(r *rand.Rand, data []byte, most int) [][]byte {
	var out [][]byte
	for len(data) > 0 {
		n := min(r.IntN(most+1), len(data))
		out = append(out, data[:n])
		data = data[n:]
		if r.IntN(5) == 0 {
			out = append(out, nil)
		}
	}
	return out
}

func good() api.Settings {
	return api.Settings{Poly: 0x11b, Window: 4, Min: 8, Max: 64, Bits: 3}
}

// P7.1

func TestExamples(t *testing.T) {
	if got := print(t, 0x11b, []byte{0x57, 0x83}); got != 0xf3 {
		t.Errorf("%x", got)
	}
	for _, p := range []uint64{1, 0x11b, math.MaxUint64} {
		if got := print(t, p); got != 0 {
			t.Errorf("%x", got)
		}
	}
	if got := cut(t, api.Settings{Poly: 0x11b, Window: 1, Min: 3, Max: 5}, make([]byte, 8)); !slices.Equal(got, []int{3, 3, 2}) {
		t.Error(got)
	}
	marks := api.Settings{Poly: 0x11b, Window: 1, Min: 1, Max: 4, Bits: 8}
	if got := cut(t, marks, []byte{0, 0xff, 1, 2, 3, 4, 5}); !slices.Equal(got, []int{2, 4, 1}) {
		t.Error(got)
	}
}

func TestGoodSettings(t *testing.T) {
	r := rand.New(rand.NewPCG(7, 1))
	deg8, deg55 := irreducible(r, 8), irreducible(r, 55)
	all := []api.Settings{
		good(),
		{Poly: deg8, Window: 1, Min: 1, Max: 1},
		{Poly: deg8, Window: 1, Min: 1, Max: 1, Bits: 8},
		{Poly: deg55, Window: 1, Min: 1, Max: 1, Bits: 20},
		{Poly: irreducible(r, 19), Window: 1, Min: 1, Max: 1, Bits: 19},
		{Poly: irreducible(r, 20), Window: 1, Min: 1, Max: 1, Bits: 20},
		{Poly: deg55, Window: 64, Min: 64, Max: 64, Bits: 1},
		{Poly: deg55, Window: 64, Min: 64, Max: 65536, Bits: 1},
		{Poly: deg55, Window: 1, Min: 65536, Max: 65536, Bits: 1},
		{Poly: 0x3da3358b4dc173, Window: 16, Min: 16, Max: 20, Bits: 20},
	}
	for d := 8; d <= 55; d++ {
		all = append(all, api.Settings{Poly: irreducible(r, d), Window: 2, Min: 3, Max: 4, Bits: min(d, 20)})
	}
	for _, s := range all {
		if err := rabin.Check(s); err != nil {
			t.Errorf("Check of %+v: %v", s, err)
		}
		chunker(t, s)
		cut(t, s, nil)
	}
}

func badSettings() []api.Settings {
	r := rand.New(rand.NewPCG(7, 2))
	changes := []func(s *api.Settings){
		func(s *api.Settings) { *s = api.Settings{} },
		func(s *api.Settings) { s.Window = 0 },
		func(s *api.Settings) { s.Window = -1 },
		func(s *api.Settings) { s.Window, s.Min = 65, 65; s.Max = 99 },
		func(s *api.Settings) { s.Window = math.MaxInt },
		func(s *api.Settings) { s.Window = math.MinInt },
		func(s *api.Settings) { s.Min = s.Window - 1 },
		func(s *api.Settings) { s.Min = s.Max + 1 },
		func(s *api.Settings) { s.Min = math.MaxInt },
		func(s *api.Settings) { s.Min, s.Max = -2, -1 },
		func(s *api.Settings) { s.Max = s.Min - 1 },
		func(s *api.Settings) { s.Max = 65537 },
		func(s *api.Settings) { s.Min, s.Max = 65537, 65537 },
		func(s *api.Settings) { s.Max = math.MaxInt },
		func(s *api.Settings) { s.Max = math.MinInt },
		func(s *api.Settings) { s.Bits = -1 },
		func(s *api.Settings) { s.Bits = 9 },
		func(s *api.Settings) { s.Bits = math.MaxInt },
		func(s *api.Settings) { s.Bits = math.MinInt },
		func(s *api.Settings) { s.Poly, s.Bits = irreducible(r, 19), 20 },
		func(s *api.Settings) { s.Poly, s.Bits = irreducible(r, 20), 21 },
		func(s *api.Settings) { s.Poly, s.Bits = irreducible(r, 55), 21 },
	}
	for _, p := range []uint64{0, 1, 2, 3, 7, 0x13, 0x83, 0x100, 0x101, 0x11a, 0x3da3358b4dc172, 1 << 55, math.MaxUint64} {
		changes = append(changes, func(s *api.Settings) { s.Poly = p })
	}
	for _, d := range []int{1, 2, 7, 56, 57, 62, 63} { // irreducible, but of a degree that may not be
		changes = append(changes, func(s *api.Settings) { s.Poly, s.Bits = irreducible(r, d), 1 })
	}
	var out []api.Settings
	for _, change := range changes {
		s := good()
		change(&s)
		out = append(out, s)
	}
	return out
}

func TestBadSettings(t *testing.T) {
	for _, s := range badSettings() {
		if err := rabin.Check(s); err != api.ErrSettings {
			t.Errorf("Check of %+v: %v", s, err)
		}
		for _, data := range [][]byte{nil, []byte("some bytes")} {
			if got, err := rabin.Cut(s, data); len(got) != 0 || err != api.ErrSettings {
				t.Errorf("Cut by %+v: %v, %v", s, got, err)
			}
		}
		if c, err := rabin.New(s); c != nil || err != api.ErrSettings {
			t.Errorf("New of %+v: %v, %v", s, c, err)
		}
	}
}

func TestPrintByNought(t *testing.T) {
	for _, parts := range [][][]byte{nil, {nil}, {{}}, {{0}}, {{1, 2}, {3}}} {
		if got, err := rabin.Print(0, parts...); got != 0 || err != api.ErrPoly {
			t.Errorf("%x, %v", got, err)
		}
	}
}

// All degrees, also those beside the ones that settings may have, and polynomials that aren't irreducible.
func TestPrint(t *testing.T) {
	r := rand.New(rand.NewPCG(7, 3))
	for d := range 64 {
		for _, p := range []uint64{1 << d, 1<<d | 1, math.MaxUint64 >> (63 - d), r.Uint64()>>(63-d) | 1<<d, irreducible(r, max(d, 1))} {
			for n := range 24 {
				data := row(r, n)
				if got, want := print(t, p, data), slowPrint(p, data); got != want {
					t.Fatalf("Print(%x, %x): answered %x, not %x", p, data, got, want)
				}
			}
			long := bytes.Repeat([]byte{0xff}, 100)
			if got, want := print(t, p, long), slowPrint(p, long); got != want {
				t.Fatalf("Print(%x, 100 bytes ff): answered %x, not %x", p, got, want)
			}
		}
	}
}

func TestPrintOfParts(t *testing.T) {
	r := rand.New(rand.NewPCG(7, 4))
	for range 500 {
		p, data := (r.Uint64()|1<<63)>>r.IntN(64), row(r, r.IntN(60))
		want := print(t, p, data)
		if parts := pieces(r, data, 1+r.IntN(9)); print(t, p, parts...) != want {
			t.Fatalf("Print(%x, %x)", p, parts)
		}
		if print(t, p, nil, []byte{0, 0}, nil, data, []byte{}) != want { // noughts ahead change no polynomial
			t.Fatalf("Print(%x, %x) with noughts ahead", p, data)
		}
	}
}

func TestCut(t *testing.T) {
	r := rand.New(rand.NewPCG(7, 5))
	for range 400 {
		s, data := settings(r), row(r, r.IntN(500))
		if got, want := cut(t, s, data), lens(slowCut(s, data)); !slices.Equal(got, want) {
			t.Fatalf("Cut by %+v of %x: answered %v, not %v", s, data, got, want)
		}
	}
}

// Each degree and each number of bits, each window: a chunk must end where the marks are, be it behind Min bytes just.
func TestCutByEachNumber(t *testing.T) {
	r := rand.New(rand.NewPCG(7, 6))
	check := func(s api.Settings) {
		data := row(r, 300)
		if got, want := cut(t, s, data), lens(slowCut(s, data)); !slices.Equal(got, want) {
			t.Fatalf("Cut by %+v of %x: answered %v, not %v", s, data, got, want)
		}
	}
	for d := 8; d <= 55; d++ {
		p := irreducible(r, d)
		for bits := range min(d, 20) + 1 {
			check(api.Settings{Poly: p, Window: 3, Min: 5, Max: 40, Bits: bits})
		}
	}
	for window := 1; window <= 64; window++ {
		p := irreducible(r, 8+r.IntN(48))
		for _, least := range []int{window, window + 1, 65} {
			check(api.Settings{Poly: p, Window: window, Min: least, Max: 120, Bits: 3})
		}
	}
}

// Bits is the degree: a mark is a window whose fingerprint has all of the bits.
func TestCutByAllBits(t *testing.T) {
	s := api.Settings{Poly: 0x11b, Window: 2, Min: 2, Max: 1000, Bits: 8}
	var marks int
	for a := range 256 {
		for b := range 256 {
			window := []byte{byte(a), byte(b)}
			data := append([]byte{0, 0, 0}, append(window, 0, 0)...)
			want := lens(slowCut(s, data))
			if got := cut(t, s, data); !slices.Equal(got, want) {
				t.Fatalf("%x: answered %v, not %v", data, got, want)
			}
			if print(t, s.Poly, window) == 0xff {
				marks++
				if want[0] > 5 {
					t.Fatalf("%x: %v", data, want)
				}
			}
		}
	}
	if marks != 256 {
		t.Error(marks)
	}
}

func TestCutOfShortRows(t *testing.T) {
	s := good()
	for n := range 12 {
		var want []int
		if n > 0 {
			want = []int{n}
		}
		if got := cut(t, s, make([]byte, n)); !slices.Equal(got, want) {
			t.Errorf("%d bytes: %v", n, got)
		}
	}
}

// The greatest chunks. Noughts have no marks; ones that end at Max, and one byte more, and one less.
func TestCutAtTheLimits(t *testing.T) {
	for _, s := range []api.Settings{
		{Poly: 0x3da3358b4dc173, Window: 64, Min: 64, Max: 65536, Bits: 20},
		{Poly: 0x3da3358b4dc173, Window: 64, Min: 65536, Max: 65536, Bits: 0},
		{Poly: 0x3da3358b4dc173, Window: 64, Min: 65536, Max: 65536, Bits: 20},
		{Poly: 0x3da3358b4dc173, Window: 1, Min: 65536, Max: 65536},
	} {
		for n, want := range map[int][]int{65535: {65535}, 65536: {65536}, 65537: {65536, 1}, 2*65536 + 5: {65536, 65536, 5}} {
			data := make([]byte, n)
			if got := cut(t, s, data); !slices.Equal(got, want) {
				t.Errorf("Cut by %+v of %d bytes: %v", s, n, got)
			}
			c := chunker(t, s)
			got := c.Write(data)
			if got = append(got, c.End()...); !slices.Equal(lens(got), want) {
				t.Errorf("Write by %+v of %d bytes: %v", s, n, lens(got))
			}
		}
	}
	one := api.Settings{Poly: 0x11b, Window: 1, Min: 1, Max: 1, Bits: 8}
	if got := cut(t, one, []byte{1, 2, 0xff, 3}); !slices.Equal(got, []int{1, 1, 1, 1}) {
		t.Error(got)
	}
}

func TestNoBits(t *testing.T) {
	r := rand.New(rand.NewPCG(7, 7))
	for range 100 {
		s := settings(r)
		s.Bits = 0
		n := r.IntN(400)
		var want []int
		for left := n; left > 0; left -= s.Min {
			want = append(want, min(left, s.Min))
		}
		if got := cut(t, s, row(r, n)); !slices.Equal(got, want) {
			t.Fatalf("Cut by %+v of %d bytes: %v", s, n, got)
		}
	}
}

func TestNilChunker(t *testing.T) {
	var c *rabin.Chunker
	for range 2 {
		if got := c.Write(); len(got) != 0 {
			t.Error(got)
		}
		if got := c.Write([]byte("some"), nil, make([]byte, 1000)); len(got) != 0 {
			t.Error(got)
		}
		if got := c.End(); len(got) != 0 {
			t.Error(got)
		}
		if got := c.Left(); got != 0 {
			t.Error(got)
		}
	}
}

func TestNewChunkerIsEmpty(t *testing.T) {
	c := chunker(t, good())
	for range 2 {
		if c.Left() != 0 || len(c.End()) != 0 || len(c.Write()) != 0 || len(c.Write(nil, []byte{}, nil)) != 0 {
			t.Error("something is written")
		}
	}
}

// A hundred kilobytes whose cuts were worked out once: they may never change, or what is stored would be stored anew.
func TestKnownCuts(t *testing.T) {
	data := make([]byte, 100000)
	x := uint32(1)
	for i := range data {
		x = x*1664525 + 1013904223
		data[i] = byte(x >> 24)
	}
	s := api.Settings{Poly: 0x3da3358b4dc173, Window: 64, Min: 1024, Max: 6000, Bits: 12}
	want := []int{
		6000, 2285, 3725, 3777, 2855, 1936, 1800, 4279, 5043, 2245, 1445, 1306, 1371, 4512, 6000, 4211, 3234, 2256, 3080, 1976, 2019, 4549, 2177, 1668, 6000, 2877, 4372, 5349, 1091, 6000, 562,
	}
	if got := cut(t, s, data); !slices.Equal(got, want) {
		t.Error(got)
	}
}
