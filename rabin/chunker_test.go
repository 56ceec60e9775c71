package rabin_test

import (
	"bytes"
	"math/rand/v2"
	"slices"
	"testing"

	"amphora/api"
	"amphora/rabin"
)

// P7.2

// writeAll writes the parts, some at once, and answers all chunks, that of End too. Behind each call what is left must be what no answer had.
func writeAll(t *testing.T, r *rand.Rand, c *rabin.Chunker, parts [][]byte) [][]byte {
	t.Helper()
	var out [][]byte
	var left int
	for len(parts) > 0 {
		n := r.IntN(min(4, len(parts)) + 1)
		for _, p := range parts[:n] {
			left += len(p)
		}
		chunks := c.Write(parts[:n]...)
		for _, x := range chunks {
			left -= len(x)
		}
		if c.Left() != left {
			t.Fatalf("Left: %d, not %d", c.Left(), left)
		}
		out = append(out, chunks...)
		parts = parts[n:]
	}
	last := c.End()
	if len(last) > 1 || left > 0 != (len(last) == 1) || left > 0 && len(last[0]) != left {
		t.Fatalf("%d bytes are left; End: %x", left, last)
	}
	if c.Left() != 0 || len(c.End()) != 0 {
		t.Fatal("End leaves something")
	}
	return append(out, last...)
}

func TestPiecesAreCutAsTheWhole(t *testing.T) {
	r := rand.New(rand.NewPCG(7, 20))
	for range 300 {
		s := settings(r)
		c := chunker(t, s)
		for range 3 { // behind End it is as new
			data := row(r, r.IntN(600))
			want := slowCut(s, data)
			got := writeAll(t, r, c, pieces(r, data, []int{1, 3, 40, 700}[r.IntN(4)]))
			if !same(got, want) {
				t.Fatalf("by %+v of %x: answered %v, not %v", s, data, lens(got), lens(want))
			}
			if !slices.Equal(lens(got), cut(t, s, data)) {
				t.Fatalf("by %+v of %x: Cut answered otherwise", s, data)
			}
		}
	}
}

// A chunk is answered by the call that writes its last byte, and not by a later one.
func TestChunksComeAtOnce(t *testing.T) {
	r := rand.New(rand.NewPCG(7, 21))
	for range 100 {
		s, data := settings(r), row(r, 300)
		want := slowCut(s, append(slices.Clone(data), make([]byte, 200)...))
		c := chunker(t, s)
		var from int
		for i := range data {
			got := c.Write(data[i : i+1])
			if from+len(want[0]) > i+1 {
				if len(got) != 0 || c.Left() != i+1-from {
					t.Fatalf("by %+v of %x: %x behind byte %d", s, data, got, i)
				}
				continue
			}
			if !same(got, want[:1]) || c.Left() != 0 {
				t.Fatalf("by %+v of %x: %x behind byte %d, not %x", s, data, got, i, want[0])
			}
			from += len(want[0])
			want = want[1:]
		}
	}
}

// A chunk that ends with the last byte that was written leaves nothing to End.
func TestEndBehindAWholeChunk(t *testing.T) {
	for _, s := range []api.Settings{
		{Poly: 0x11b, Window: 1, Min: 5, Max: 5, Bits: 8},
		{Poly: 0x11b, Window: 1, Min: 5, Max: 9, Bits: 0},
	} {
		c := chunker(t, s)
		got := c.Write([]byte("hello"), []byte("world"))
		if !same(got, [][]byte{[]byte("hello"), []byte("world")}) || c.Left() != 0 || len(c.End()) != 0 {
			t.Errorf("%q, %d left", got, c.Left())
		}
	}
}

// What was written ahead of End must not count for the windows behind it.
func TestEndForgets(t *testing.T) {
	r := rand.New(rand.NewPCG(7, 22))
	for range 300 {
		s := settings(r)
		ahead, data := row(r, r.IntN(2*s.Max)), row(r, 300)
		c := chunker(t, s)
		c.Write(ahead)
		c.End()
		got := c.Write(data)
		if got = append(got, c.End()...); !same(got, slowCut(s, data)) {
			t.Fatalf("by %+v of %x behind %x: %v", s, data, ahead, lens(got))
		}
	}
}

func TestChunkersAreApart(t *testing.T) {
	s, u := good(), good()
	u.Poly, u.Bits = 0x3da3358b4dc173, 2
	r := rand.New(rand.NewPCG(7, 23))
	c, d, data := chunker(t, s), chunker(t, u), row(r, 500)
	var ofC, ofD [][]byte
	for _, b := range data {
		ofC = append(ofC, c.Write([]byte{b})...)
		ofD = append(ofD, d.Write([]byte{b, b})...)
	}
	var twice []byte
	for _, b := range data {
		twice = append(twice, b, b)
	}
	if !same(append(ofC, c.End()...), slowCut(s, data)) || !same(append(ofD, d.End()...), slowCut(u, twice)) {
		t.Error("one has what was written to the other")
	}
}

// P7.3

func TestChunksAreTheData(t *testing.T) {
	r := rand.New(rand.NewPCG(7, 24))
	for range 300 {
		s, data := settings(r), row(r, r.IntN(800))
		chunks := writeAll(t, r, chunker(t, s), pieces(r, data, 50))
		if !bytes.Equal(bytes.Join(chunks, nil), data) {
			t.Fatalf("by %+v of %x: %x", s, data, chunks)
		}
		all := cut(t, s, data)
		sum := 0
		for i, n := range all {
			sum += n
			if n > s.Max || n < 1 || i < len(all)-1 && n < s.Min {
				t.Fatalf("by %+v of %x: %v", s, data, all)
			}
		}
		if sum != len(data) {
			t.Fatalf("by %+v of %x: %v", s, data, all)
		}
	}
}

// P7.4

// begins tells where chunks begin.
func begins(all []int) map[int]int {
	out, at := map[int]int{}, 0
	for i, n := range all {
		out[at] = i
		at += n
	}
	return out
}

func TestCommonEnds(t *testing.T) {
	r := rand.New(rand.NewPCG(7, 25))
	var met int
	for range 400 {
		s, end := settings(r), row(r, r.IntN(600))
		a, b := row(r, r.IntN(200)), row(r, r.IntN(200))
		cutA, cutB := cut(t, s, append(a, end...)), cut(t, s, append(b, end...))
		beginsB := begins(cutB)
		for at, i := range begins(cutA) {
			j, both := beginsB[at-len(a)+len(b)]
			if at < len(a) || !both {
				continue
			}
			met++
			if !slices.Equal(cutA[i:], cutB[j:]) {
				t.Fatalf("by %+v of %x and %x ahead of %x: %v and %v", s, a, b, end, cutA, cutB)
			}
		}
	}
	if met < 1000 {
		t.Error("too few chunks begin at one place in both:", met)
	}
}

func TestBytesAheadMoveFewCuts(t *testing.T) {
	s := api.Settings{Poly: 0x3da3358b4dc173, Window: 16, Min: 32, Max: 2048, Bits: 6}
	r := rand.New(rand.NewPCG(7, 26))
	data := make([]byte, 50000)
	for i := range data {
		data[i] = byte(r.Uint32())
	}
	was := slowCut(s, data)
	now := slowCut(s, append([]byte("some more ahead"), data...))
	c := chunker(t, s)
	got := c.Write([]byte("some more ahead"), data)
	if got = append(got, c.End()...); !same(got, now) {
		t.Fatal(lens(got))
	}
	slices.Reverse(was)
	slices.Reverse(got)
	common := 0
	for common < min(len(was), len(got)) && bytes.Equal(was[common], got[common]) {
		common++
	}
	if len(was) < 100 || common < len(was)-20 {
		t.Errorf("of %d chunks %d are the same", len(was), common)
	}
}

// P7.5

func TestArgumentsStayAsTheyAre(t *testing.T) {
	r := rand.New(rand.NewPCG(7, 27))
	for range 100 {
		s := settings(r)
		whole := row(r, 500)
		data := whole[50:400] // with room ahead and behind
		parts := append(pieces(r, data, 30), []byte("spare"))
		was := slices.Clone(whole)
		heads := make([][]byte, len(parts))
		copy(heads, parts)
		cut(t, s, data)
		print(t, s.Poly, parts[:len(parts)-1]...)
		c := chunker(t, s)
		for _, x := range append(c.Write(parts[:len(parts)-1]...), c.End()...) {
			clear(x[:cap(x)]) // an answer is the caller's, spare room and all
		}
		if !bytes.Equal(whole, was) || !same(parts, heads) {
			t.Fatalf("by %+v: changed", s)
		}
	}
}

func TestArgumentsAreNotKept(t *testing.T) {
	r := rand.New(rand.NewPCG(7, 28))
	for range 100 {
		s, data := settings(r), row(r, 500)
		c := chunker(t, s)
		var got [][]byte
		buffer := make([]byte, 10)
		parts := [][]byte{buffer[:5], buffer[5:]}
		for at := 0; at < len(data); at += 10 {
			copy(buffer, data[at:])
			got = append(got, c.Write(parts...)...)
			for i := range buffer {
				buffer[i] ^= 0xa5
			}
		}
		if got = append(got, c.End()...); !same(got, slowCut(s, data)) {
			t.Fatalf("by %+v of %x: %x", s, data, got)
		}
	}
}

// spoil writes over all that an answer holds, and over its spare room.
func spoil(chunks [][]byte) {
	for i, x := range chunks {
		x = x[:cap(x)]
		for j := range x {
			x[j] ^= 0x5a
		}
		chunks[i] = nil
	}
	clear(chunks[:cap(chunks)])
}

func TestAnswersAreNewMemory(t *testing.T) {
	r := rand.New(rand.NewPCG(7, 29))
	for range 100 {
		s, data := settings(r), row(r, 600)
		c := chunker(t, s)
		var got [][]byte
		for _, part := range pieces(r, data, 60) {
			chunks := c.Write(part)
			for _, x := range chunks {
				got = append(got, slices.Clone(x))
			}
			spoil(chunks)
		}
		last := c.End()
		for _, x := range last {
			got = append(got, slices.Clone(x))
		}
		spoil(last)
		if !same(got, slowCut(s, data)) {
			t.Fatalf("by %+v of %x: %x", s, data, got)
		}
		again := c.Write(data)
		if again = append(again, c.End()...); !same(again, got) {
			t.Fatalf("by %+v of %x, once more: %x", s, data, again)
		}
	}
}

func TestChunksOfOneAnswerShareNothing(t *testing.T) {
	r := rand.New(rand.NewPCG(7, 30))
	for range 100 {
		s, data := settings(r), row(r, 600)
		c := chunker(t, s)
		chunks := c.Write(data)
		chunks = append(chunks, c.End()...)
		want := slowCut(s, slices.Clone(data))
		for i, x := range chunks {
			_ = append(x, "all of the spare room behind a chunk"...)
			for j := range x {
				x[j]++
			}
			if !same(chunks[i+1:], want[i+1:]) {
				t.Fatalf("by %+v: chunk %d shares memory", s, i)
			}
		}
		if !bytes.Equal(data, bytes.Join(want, nil)) {
			t.Fatal("the data are changed")
		}
	}
}

func TestCutIsNewMemory(t *testing.T) {
	s, data := good(), make([]byte, 300)
	want := slices.Clone(cut(t, s, data))
	clear(cut(t, s, data))
	if got := cut(t, s, data); !slices.Equal(got, want) {
		t.Error(got)
	}
}
