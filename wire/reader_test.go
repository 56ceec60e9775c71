package wire_test

import (
	"bytes"
	"encoding/binary"
	"math"
	"math/rand/v2"
	"slices"
	"testing"

	"amphora/api"
	"amphora/wire"
)

// model is the second account of a reader.
type model struct {
	rest   []byte
	broken bool
}

// skip goes behind n bytes, or breaks the reader, if ok doesn't hold.
func (m *model) skip(n int, ok bool) []byte {
	if m.broken || !ok {
		m.rest, m.broken = nil, true
		return nil
	}
	piece := m.rest[:n]
	m.rest = m.rest[n:]
	return piece
}

func (m *model) readVar() int {
	n, size := plainVar(m.rest)
	m.skip(size, size > 0)
	return n
}

func (m *model) readNum() int {
	if b := m.skip(8, len(m.rest) >= 8); b != nil {
		return int(binary.BigEndian.Uint64(b))
	}
	return 0
}

func (m *model) readField() []byte {
	field, size, ok := plainField(m.rest)
	m.skip(size, ok)
	return field
}

func (m *model) readRaw(n int) []byte {
	return m.skip(n, n >= 0 && n <= len(m.rest))
}

func (m *model) state() (int, bool, bool) {
	return len(m.rest), m.broken, !m.broken && len(m.rest) == 0
}

func checkState(t *testing.T, what string, r *wire.Reader, m *model) {
	t.Helper()
	left, broken, done := m.state()
	if r.Left() != left {
		t.Fatalf("%s: %d left, not %d", what, r.Left(), left)
	}
	if err := r.Err(); broken && err != api.ErrWire || !broken && err != nil {
		t.Fatalf("%s: Err answers %v", what, err)
	}
	if err := r.Done(); !done && err != api.ErrWire || done && err != nil {
		t.Fatalf("%s: Done answers %v", what, err)
	}
}

// step makes one of the four calls, of the reader and of the model, and holds the answers against each other.
func step(t *testing.T, call, n int, r *wire.Reader, m *model) {
	t.Helper()
	switch call {
	case 0:
		if got, want := r.Var(), m.readVar(); got != want {
			t.Fatalf("Var: %d, not %d", got, want)
		}
	case 1:
		if got, want := r.Num(), m.readNum(); got != want {
			t.Fatalf("Num: %d, not %d", got, want)
		}
	case 2:
		if got, want := r.Field(), m.readField(); !bytes.Equal(got, want) {
			t.Fatalf("Field: %x, not %x", got, want)
		}
	case 3:
		if got, want := r.Raw(n), m.readRaw(n); !bytes.Equal(got, want) {
			t.Fatalf("Raw(%d): %x, not %x", n, got, want)
		}
	}
	checkState(t, "behind the call", r, m)
}

// P4.3

func TestReaderInAnyOrderOfCalls(t *testing.T) {
	r := rand.New(rand.NewPCG(4, 5))
	for range 30000 {
		b := random(r)
		reader, m := wire.NewReader(b), &model{rest: slices.Clone(b)}
		checkState(t, "new", reader, m)
		for range r.IntN(20) {
			n := r.IntN(10)
			if r.IntN(12) == 0 {
				n = []int{-1, math.MinInt, len(m.rest), len(m.rest) + 1, math.MaxInt}[r.IntN(5)]
			}
			step(t, r.IntN(4), n, reader, m)
		}
	}
}

func TestReaderOfAllFewBytes(t *testing.T) {
	fewBytes(3, func(b []byte) {
		for calls := range 4 * 4 * 4 {
			r, m := wire.NewReader(b), &model{rest: b}
			for _, call := range []int{calls / 16, calls / 4 % 4, calls % 4} {
				step(t, call, 1, r, m)
			}
		}
	})
}

func TestReaderReadsWhatIsWritten(t *testing.T) {
	long := bytes.Repeat([]byte("x"), 300)
	r := wire.NewReader(joined(wire.Var(300), wire.Num(-2), wire.Pack(long, nil), []byte("raw"), wire.Var(math.MaxInt), wire.Num(math.MinInt)))
	if n := r.Var(); n != 300 {
		t.Error(n)
	}
	if n := r.Num(); n != -2 {
		t.Error(n)
	}
	if b := r.Field(); !bytes.Equal(b, long) {
		t.Error(b)
	}
	if b := r.Field(); len(b) != 0 || r.Left() != 3+9+8 {
		t.Error(b, r.Left())
	}
	if b := r.Raw(0); len(b) != 0 || r.Left() != 3+9+8 {
		t.Error(b, r.Left())
	}
	if b := r.Raw(3); string(b) != "raw" {
		t.Error(b)
	}
	if n := r.Var(); n != math.MaxInt || r.Done() != api.ErrWire || r.Err() != nil {
		t.Error(n, r.Done(), r.Err())
	}
	if n := r.Num(); n != math.MinInt || r.Left() != 0 || r.Done() != nil || r.Err() != nil {
		t.Error(n, r.Left(), r.Done(), r.Err())
	}
	if b := r.Raw(0); len(b) != 0 || r.Done() != nil {
		t.Error(b, r.Done())
	}
}

// What breaks a reader, each of them with good bytes behind, which it mustn't go on to read.
func TestBrokenReaderStaysBroken(t *testing.T) {
	good := []byte{2, 0, 0, 0, 0, 0, 0, 0, 0}
	breaks := map[string]func() *wire.Reader{
		"Var":           func() *wire.Reader { r := wire.NewReader(joined([]byte{0x80, 0}, good)); r.Var(); return r },
		"Var too long":  func() *wire.Reader { r := wire.NewReader(bytes.Repeat([]byte{0xff}, 30)); r.Var(); return r },
		"Num":           func() *wire.Reader { r := wire.NewReader(good[:7]); r.Num(); return r },
		"Field":         func() *wire.Reader { r := wire.NewReader([]byte{4, 1, 1, 1}); r.Field(); return r },
		"Field's form":  func() *wire.Reader { r := wire.NewReader(joined([]byte{0x81, 0}, good)); r.Field(); return r },
		"Raw":           func() *wire.Reader { r := wire.NewReader(good); r.Raw(len(good) + 1); return r },
		"Raw below":     func() *wire.Reader { r := wire.NewReader(good); r.Raw(-1); return r },
		"Raw far below": func() *wire.Reader { r := wire.NewReader(good); r.Raw(math.MinInt); return r },
		"Raw far above": func() *wire.Reader { r := wire.NewReader(good); r.Raw(1); r.Raw(math.MaxInt); return r },
		"no bytes":      func() *wire.Reader { r := wire.NewReader(nil); r.Var(); return r },
		"nil":           func() *wire.Reader { return nil },
	}
	for name, made := range breaks {
		r := made()
		for range 2 {
			if r.Err() != api.ErrWire || r.Done() != api.ErrWire || r.Left() != 0 {
				t.Errorf("%s: %v, %v, %d left", name, r.Err(), r.Done(), r.Left())
			}
			if n := r.Var(); n != 0 {
				t.Errorf("%s: Var answers %d", name, n)
			}
			if n := r.Num(); n != 0 {
				t.Errorf("%s: Num answers %d", name, n)
			}
			if b := r.Field(); len(b) != 0 {
				t.Errorf("%s: Field answers %x", name, b)
			}
			for _, n := range []int{0, 1, -1, math.MaxInt, math.MinInt} {
				if b := r.Raw(n); len(b) != 0 {
					t.Errorf("%s: Raw(%d) answers %x", name, n, b)
				}
			}
		}
	}
}

func TestReaderOfNothing(t *testing.T) {
	for _, none := range [][]byte{nil, {}} {
		r := wire.NewReader(none)
		if r.Left() != 0 || r.Err() != nil || r.Done() != nil || len(r.Raw(0)) != 0 || r.Done() != nil {
			t.Error(r.Left(), r.Err(), r.Done())
		}
		if r.Num() != 0 || r.Err() != api.ErrWire {
			t.Error(r.Err())
		}
	}
}

// P4.4

func TestReaderKeepsACopy(t *testing.T) {
	row := joined(wire.Pack([]byte("abc")), wire.Num(5), []byte("raw"))
	handed := roomy(row)
	r := wire.NewReader(handed)
	scribble(r.Field())
	if !untouched(handed, row) {
		t.Error("what was handed in is another")
	}
	scribble(handed)
	if n, b := r.Num(), r.Raw(3); n != 5 || string(b) != "raw" || r.Done() != nil {
		t.Error(n, b, r.Done())
	}
}

func TestReadersAnswersShareNothing(t *testing.T) {
	r := wire.NewReader(joined(wire.Pack([]byte("abc")), []byte("raw"), wire.Pack(nil), wire.Var(300), wire.Pack([]byte("end"))))
	field := r.Field()
	kept := append(field, "xyz"...)
	raw := r.Raw(3)
	scribble(field)
	scribble(r.Field())
	if string(raw) != "raw" || string(kept) != "abcxyz" {
		t.Errorf("%q, %q", raw, kept)
	}
	scribble(raw)
	if n, end := r.Var(), r.Field(); n != 300 || string(end) != "end" || r.Done() != nil {
		t.Error(n, end, r.Done())
	}
}

func TestReadersGoTheirOwnWays(t *testing.T) {
	b := []byte("\x01a\x01b")
	first, second := wire.NewReader(b), wire.NewReader(b)
	scribble(first.Field())
	first.Raw(-1)
	if string(second.Field()) != "a" || string(second.Field()) != "b" || second.Done() != nil || first.Err() != api.ErrWire {
		t.Error(first.Err(), second.Err())
	}
}
