package wire_test

import (
	"bytes"
	"encoding/binary"
	"fmt"
	"math"
	"math/rand/v2"
	"slices"
	"testing"

	"amphora/api"
	"amphora/wire"
)

// The second account of the forms: numbers by the library's means, and what is read held against what it would be written as.

// plainVar reads a short number: the number and its length, or 0 of length 0.
func plainVar(b []byte) (int, int) {
	n, size := binary.Uvarint(b)
	if size <= 0 || n > math.MaxInt || !bytes.Equal(b[:size], binary.AppendUvarint(nil, n)) {
		return 0, 0
	}
	return int(n), size
}

// plainField reads a field: its bytes, its length with them, whether there is one.
func plainField(b []byte) ([]byte, int, bool) {
	n, size := plainVar(b)
	if size == 0 || n > api.MaxField || n > len(b)-size {
		return nil, 0, false
	}
	return b[size : size+n], size + n, true
}

func plainUnpack(b []byte, n int) ([][]byte, bool) {
	var out [][]byte
	for len(b) > 0 {
		field, size, ok := plainField(b)
		if !ok {
			return nil, false
		}
		out, b = append(out, field), b[size:]
	}
	return out, len(out) == n
}

func plainFrames(b []byte) ([]api.Frame, int) {
	var out []api.Frame
	at := 0
	for at < len(b) {
		body, size, ok := plainField(b[at+1:])
		if !ok {
			break
		}
		out = append(out, api.Frame{Kind: int(b[at]), Body: body, At: at})
		at += 1 + size
	}
	return out, at
}

func sameFrames(a, b []api.Frame) bool {
	return slices.EqualFunc(a, b, func(x, y api.Frame) bool {
		return x.Kind == y.Kind && x.At == y.At && bytes.Equal(x.Body, y.Body)
	})
}

func sameRows(a, b [][]byte) bool {
	return slices.EqualFunc(a, b, bytes.Equal)
}

// joined is pieces, one behind the other.
func joined(pieces ...[]byte) []byte {
	return slices.Concat(pieces...)
}

// edges is numbers round the places where a short number gets longer, and round the ends.
func edges() []int {
	out := []int{0, 1, 2, 300, api.MaxField - 1, api.MaxField, api.MaxField + 1, math.MaxInt - 1, math.MaxInt}
	for bits := 7; bits < 63; bits += 7 {
		out = append(out, 1<<bits-1, 1<<bits, 1<<bits+1)
	}
	return out
}

// fewBytes calls f with every row of up to most bytes, all of them out of those that the forms are made of.
func fewBytes(most int, f func(b []byte)) {
	var grow func(b []byte)
	grow = func(b []byte) {
		f(slices.Clip(slices.Clone(b)))
		if len(b) == most {
			return
		}
		for _, c := range []byte{0, 1, 2, 3, 0x7f, 0x80, 0x81, 0xff} {
			grow(append(b, c))
		}
	}
	grow(nil)
}

// random is bytes among which the forms are found, more often than among any.
func random(r *rand.Rand) []byte {
	var out []byte
	for range r.IntN(12) {
		switch r.IntN(7) {
		case 0:
			out = append(out, byte(r.Uint32()))
		case 1:
			out = binary.AppendUvarint(out, uint64(r.IntN(20)))
		case 2:
			out = binary.AppendUvarint(out, r.Uint64()>>r.IntN(64))
		case 3:
			out = binary.BigEndian.AppendUint64(out, r.Uint64())
		case 4:
			out = append(out, byte(r.IntN(5)|0x80), 0) // too long a form
		default:
			n := r.IntN(200)
			out = binary.AppendUvarint(out, uint64(n))
			out = append(out, make([]byte, n)...)
		}
	}
	return out
}

// P4.1

func TestVarAnswersTheForm(t *testing.T) {
	for n, want := range map[int]string{
		0: "00", 1: "01", 127: "7f", 128: "8001", 129: "8101", 255: "ff01", 300: "ac02", 16383: "ff7f", 16384: "808001",
		api.MaxField: "80808020", 1 << 56: "808080808080808001", math.MaxInt: "ffffffffffffffff7f",
	} {
		if got := fmt.Sprintf("%x", wire.Var(n)); got != want {
			t.Errorf("Var(%d): %s, not %s", n, got, want)
		}
	}
	for _, n := range edges() {
		if got, want := wire.Var(n), binary.AppendUvarint(nil, uint64(n)); !bytes.Equal(got, want) {
			t.Errorf("Var(%d): %x, not %x", n, got, want)
		}
	}
}

func TestVarBelowNoughtIsNone(t *testing.T) {
	for _, n := range []int{-1, -2, -127, -128, -300, math.MinInt, math.MinInt + 1} {
		if got := wire.Var(n); len(got) != 0 {
			t.Errorf("Var(%d): %x", n, got)
		}
	}
}

func checkReadVar(t *testing.T, b []byte) {
	t.Helper()
	n, size, err := wire.ReadVar(b)
	want, wantSize := plainVar(b)
	if n != want || size != wantSize || wantSize == 0 && err != api.ErrWire || wantSize > 0 && err != nil {
		t.Fatalf("ReadVar(%x): %d, %d, %v, not %d, %d", b, n, size, err, want, wantSize)
	}
}

func TestReadVarOfAllFewBytes(t *testing.T) {
	fewBytes(5, func(b []byte) { checkReadVar(t, b) })
	for i := range 1 << 16 {
		checkReadVar(t, []byte{byte(i >> 8), byte(i)})
	}
}

func TestReadVarRefuses(t *testing.T) {
	ones := bytes.Repeat([]byte{0xff}, 40)
	for _, b := range [][]byte{
		nil, {}, {0x80}, {0x80, 0}, {0x80, 0x80, 0}, {0xff, 0x80, 0, 1}, {0x81, 0x80, 0x80, 0x80, 0x80, 0x80, 0x80, 0x80, 0}, ones[:8], ones[:9], ones,
		append(slices.Clone(ones[:9]), 0), append(slices.Clone(ones[:9]), 1), append(slices.Clone(ones[:9]), 2), append(slices.Clone(ones[:10]), 1),
		append(bytes.Repeat([]byte{0x80}, 9), 1),
	} {
		if n, size, err := wire.ReadVar(b); n != 0 || size != 0 || err != api.ErrWire {
			t.Errorf("ReadVar(%x): %d, %d, %v", b, n, size, err)
		}
	}
}

func TestReadVarLooksAtTheFirstBytesAlone(t *testing.T) {
	for _, n := range edges() {
		for _, tail := range [][]byte{nil, {0}, {0xff}, {0x80, 0}, make([]byte, 20)} {
			b := append(wire.Var(n), tail...)
			if got, size, err := wire.ReadVar(b); got != n || size != len(b)-len(tail) || err != nil {
				t.Errorf("ReadVar(%x): %d, %d, %v, not %d", b, got, size, err, n)
			}
		}
		b := wire.Var(n)
		for i := range b {
			if got, size, err := wire.ReadVar(b[:i]); got != 0 || size != 0 || err != api.ErrWire {
				t.Errorf("ReadVar(%x): %d, %d, %v", b[:i], got, size, err)
			}
		}
	}
}

func TestNumAnswersTheForm(t *testing.T) {
	for n, want := range map[int]string{
		0: "0000000000000000", 1: "0000000000000001", -1: "ffffffffffffffff", -2: "fffffffffffffffe", 0x0102030405060708: "0102030405060708",
		-256: "ffffffffffffff00", math.MaxInt: "7fffffffffffffff", math.MinInt: "8000000000000000",
	} {
		b := wire.Num(n)
		if got := fmt.Sprintf("%x", b); got != want {
			t.Errorf("Num(%d): %s, not %s", n, got, want)
		}
		if got, err := wire.ReadNum(b); got != n || err != nil {
			t.Errorf("ReadNum(%x): %d, %v", b, got, err)
		}
	}
}

func TestReadNumTakesEightBytesAlone(t *testing.T) {
	for size := range 20 {
		b := bytes.Repeat([]byte{0x81}, size)
		n, err := wire.ReadNum(b)
		if size == 8 && (n != -0x7e7e7e7e7e7e7e7f || err != nil) || size != 8 && (n != 0 || err != api.ErrWire) {
			t.Errorf("%d bytes: %d, %v", size, n, err)
		}
	}
}

func TestPackAnswersTheForm(t *testing.T) {
	long := bytes.Repeat([]byte("x"), 300)
	for _, c := range []struct {
		fields [][]byte
		want   []byte
	}{
		{nil, nil},
		{[][]byte{nil}, []byte{0}},
		{[][]byte{{}, nil, {}}, []byte{0, 0, 0}},
		{[][]byte{[]byte("a"), nil}, []byte("\x01a\x00")},
		{[][]byte{nil, []byte("bc"), []byte("d")}, []byte("\x00\x02bc\x01d")},
		{[][]byte{long[:127], long[:128], long}, joined([]byte{0x7f}, long[:127], []byte{0x80, 1}, long[:128], []byte{0xac, 2}, long)},
	} {
		if got := wire.Pack(c.fields...); !bytes.Equal(got, c.want) {
			t.Errorf("Pack(%q): %x, not %x", c.fields, got, c.want)
		}
	}
}

func TestPackOfLongFields(t *testing.T) {
	long := make([]byte, api.MaxField+1)
	long[0], long[api.MaxField-1] = 1, 2
	most := long[:api.MaxField]
	got := wire.Pack([]byte("a"), most, []byte("b"))
	if !bytes.Equal(got, joined([]byte("\x01a\x80\x80\x80\x20"), most, []byte("\x01b"))) {
		t.Errorf("%d bytes", len(got))
	}
	for _, fields := range [][][]byte{{long}, {nil, long}, {long, []byte("a")}, {[]byte("a"), long, nil}, {long, long}} {
		if got := wire.Pack(fields...); len(got) != 0 {
			t.Errorf("%d fields: %d bytes", len(fields), len(got))
		}
	}
}

// A field that is too long is found ahead of any copying: the fields ahead of it are far more than the machine's memory.
func TestPackOfManyThatShareMemory(t *testing.T) {
	long := make([]byte, api.MaxField+1)
	fields := append(slices.Repeat([][]byte{long[:api.MaxField]}, 1<<16), long)
	if got := wire.Pack(fields...); len(got) != 0 {
		t.Errorf("%d bytes", len(got))
	}
}

func checkUnpack(t *testing.T, b []byte, n int) {
	t.Helper()
	got, err := wire.Unpack(b, n)
	want, ok := plainUnpack(b, n)
	if ok && (err != nil || !sameRows(got, want)) || !ok && (err != api.ErrWire || got != nil) {
		t.Fatalf("Unpack(%x, %d): %x, %v, not %x, %v", b, n, got, err, want, ok)
	}
}

func TestUnpackOfAllFewBytes(t *testing.T) {
	fewBytes(5, func(b []byte) {
		for n := -1; n <= len(b)+1; n++ {
			checkUnpack(t, b, n)
		}
	})
}

func TestUnpackOfRandomBytes(t *testing.T) {
	r := rand.New(rand.NewPCG(4, 1))
	for range 5000 {
		b := random(r)
		for n := -1; n < 15; n++ {
			checkUnpack(t, b, n)
		}
	}
}

func TestUnpackOfAnyNumber(t *testing.T) {
	for _, n := range []int{math.MinInt, -2, -1, 1, 3, 4, 1 << 40, math.MaxInt} {
		if got, err := wire.Unpack([]byte("\x01a\x00"), n); err != api.ErrWire || got != nil {
			t.Errorf("%d fields: %q, %v", n, got, err)
		}
	}
	for _, none := range [][]byte{nil, {}} {
		if got, err := wire.Unpack(none, 0); err != nil || len(got) != 0 {
			t.Errorf("none: %q, %v", got, err)
		}
		for _, n := range []int{-1, 1, math.MaxInt} {
			if got, err := wire.Unpack(none, n); err != api.ErrWire || got != nil {
				t.Errorf("%d of no bytes: %q, %v", n, got, err)
			}
		}
	}
}

// laid is a field of this many noughts, which the forms may not allow.
func laid(size int) []byte {
	out := binary.AppendUvarint(nil, uint64(size))
	return append(out, make([]byte, size)...)
}

func TestReadingOfLongFields(t *testing.T) {
	for _, size := range []int{api.MaxField, api.MaxField + 1} {
		good := size == api.MaxField
		b := laid(size)
		fields, err := wire.Unpack(b, 1)
		if good && (err != nil || len(fields) != 1 || len(fields[0]) != size) || !good && (err != api.ErrWire || fields != nil) {
			t.Errorf("a field of %d bytes: %d fields, %v", size, len(fields), err)
		}
		frames, behind := wire.Frames(append([]byte{9, 1, 5, 8}, b...))
		if good && (len(frames) != 2 || len(frames[1].Body) != size || frames[1].At != 3 || behind != 4+len(b)) || !good && (len(frames) != 1 || behind != 3) {
			t.Errorf("a frame of %d bytes: %d frames, %d", size, len(frames), behind)
		}
		r := wire.NewReader(b)
		field := r.Field()
		if good && (len(field) != size || r.Done() != nil) || !good && (len(field) != 0 || r.Err() != api.ErrWire || r.Left() != 0) {
			t.Errorf("a reader's field of %d bytes: %d bytes, %v, %d left", size, len(field), r.Err(), r.Left())
		}
	}
}

func TestLengthsBeyondWhatIsThere(t *testing.T) {
	for _, n := range edges()[1:] {
		b := append(wire.Var(n), make([]byte, min(n-1, 70))...)
		if got, err := wire.Unpack(b, 1); err != api.ErrWire || got != nil {
			t.Errorf("Unpack of a length of %d: %q, %v", n, got, err)
		}
		if got, behind := wire.Frames(append([]byte{2}, b...)); len(got) != 0 || behind != 0 {
			t.Errorf("Frames of a length of %d: %v, %d", n, got, behind)
		}
		r := wire.NewReader(b)
		if got := r.Field(); len(got) != 0 || r.Err() != api.ErrWire {
			t.Errorf("Field of a length of %d: %q, %v", n, got, r.Err())
		}
	}
}

func TestFrameAnswersTheForm(t *testing.T) {
	long := bytes.Repeat([]byte("x"), 300)
	for _, c := range []struct {
		kind  byte
		parts [][]byte
		want  []byte
	}{
		{0, nil, []byte{0, 0}},
		{255, [][]byte{nil, {}}, []byte{255, 0}},
		{7, [][]byte{[]byte("h"), []byte("i")}, []byte("\x07\x02hi")},
		{0x80, [][]byte{nil, []byte("hi"), nil}, []byte("\x80\x02hi")},
		{1, [][]byte{long[:100], long[:27]}, joined([]byte{1, 0x7f}, long[:127])},
		{1, [][]byte{long[:100], long[:28]}, joined([]byte{1, 0x80, 1}, long[:128])},
		{1, [][]byte{long}, joined([]byte{1, 0xac, 2}, long)},
	} {
		if got := wire.Frame(c.kind, c.parts...); !bytes.Equal(got, c.want) {
			t.Errorf("Frame(%d, %q): %x, not %x", c.kind, c.parts, got, c.want)
		}
	}
}

func TestFrameOfLongParts(t *testing.T) {
	long := make([]byte, api.MaxField+1)
	long[0], long[api.MaxField-1] = 1, 2
	most := long[:api.MaxField]
	want := joined([]byte("\x05\x80\x80\x80\x20"), most)
	for _, parts := range [][][]byte{{most}, {nil, most, nil}, {most[:5], most[5:]}, {most[:api.MaxField-1], most[api.MaxField-1:]}} {
		if got := wire.Frame(5, parts...); !bytes.Equal(got, want) {
			t.Errorf("%d parts: %d bytes", len(parts), len(got))
		}
	}
	for _, parts := range [][][]byte{{long}, {most, []byte("a")}, {[]byte("a"), nil, most}, {most, most}, slices.Repeat([][]byte{most}, 1<<16)} {
		if got := wire.Frame(5, parts...); len(got) != 0 {
			t.Errorf("%d parts: %d bytes", len(parts), len(got))
		}
	}
}

func checkFrames(t *testing.T, b []byte) {
	t.Helper()
	got, behind := wire.Frames(b)
	want, wantBehind := plainFrames(b)
	if !sameFrames(got, want) || behind != wantBehind {
		t.Fatalf("Frames(%x): %v, %d, not %v, %d", b, got, behind, want, wantBehind)
	}
}

func TestFramesOfAllFewBytes(t *testing.T) {
	fewBytes(5, func(b []byte) { checkFrames(t, b) })
}

func TestFramesOfRandomBytes(t *testing.T) {
	r := rand.New(rand.NewPCG(4, 2))
	for range 20000 {
		checkFrames(t, random(r))
	}
}

func TestFramesOfEveryBeginning(t *testing.T) {
	frames := [][]byte{wire.Frame(7, []byte("hi")), wire.Frame(255), wire.Frame(0, make([]byte, 200)), wire.Frame(2, []byte("x"))}
	whole := joined(frames...)
	for n := range len(whole) + 1 {
		count, end := 0, 0
		for count < len(frames) && end+len(frames[count]) <= n {
			end += len(frames[count])
			count++
		}
		got, behind := wire.Frames(whole[:n])
		if len(got) != count || behind != end {
			t.Errorf("of %d bytes: %d frames, %d, not %d, %d", n, len(got), behind, count, end)
		}
	}
}

func TestFramesEndAtWhatIsNone(t *testing.T) {
	good := []byte{7, 2, 'h', 'i'}
	for _, tail := range [][]byte{nil, {7}, {7, 0x80}, {7, 0x80, 0}, {7, 0x82, 0, 'h', 'i'}, {7, 3, 'h', 'i'}, bytes.Repeat([]byte{0xff}, 30)} {
		got, behind := wire.Frames(joined(good, tail, nil))
		if !sameFrames(got, []api.Frame{{Kind: 7, Body: []byte("hi")}}) || behind != 4 {
			t.Errorf("%x behind it: %v, %d", tail, got, behind)
		}
		if got, behind = wire.Frames(tail); len(got) != 0 || behind != 0 {
			t.Errorf("%x alone: %v, %d", tail, got, behind)
		}
	}
}

// P4.2

func TestWhatIsWrittenIsReadBack(t *testing.T) {
	r := rand.New(rand.NewPCG(4, 3))
	for range 2000 {
		n := int(r.Uint64() >> r.IntN(64))
		if got, err := wire.ReadNum(wire.Num(n)); got != n || err != nil {
			t.Fatalf("long %d: %d, %v", n, got, err)
		}
		n &= math.MaxInt
		b := wire.Var(n)
		if got, size, err := wire.ReadVar(b); got != n || size != len(b) || err != nil {
			t.Fatalf("short %d: %d, %d, %v", n, got, size, err)
		}
		var fields [][]byte
		var frames []api.Frame
		var file []byte
		for range r.IntN(8) {
			field := random(r)
			kind := byte(r.Uint32())
			cut := r.IntN(len(field) + 1)
			fields = append(fields, field)
			frames = append(frames, api.Frame{Kind: int(kind), Body: field, At: len(file)})
			file = append(file, wire.Frame(kind, field[:cut], field[cut:])...)
		}
		if got, err := wire.Unpack(wire.Pack(fields...), len(fields)); err != nil || !sameRows(got, fields) {
			t.Fatalf("fields %x: %x, %v", fields, got, err)
		}
		if got, behind := wire.Frames(file); !sameFrames(got, frames) || behind != len(file) {
			t.Fatalf("frames %v: %v, %d", frames, got, behind)
		}
	}
}

func checkWrittenAgain(t *testing.T, b []byte) {
	t.Helper()
	if n, size, err := wire.ReadVar(b); err == nil && !bytes.Equal(wire.Var(n), b[:size]) {
		t.Fatalf("short number of %x", b)
	}
	if n, err := wire.ReadNum(b); err == nil && !bytes.Equal(wire.Num(n), b) {
		t.Fatalf("long number of %x", b)
	}
	for n := range len(b) + 1 {
		if fields, err := wire.Unpack(b, n); err == nil && !bytes.Equal(wire.Pack(fields...), b) {
			t.Fatalf("fields of %x", b)
		}
	}
	frames, behind := wire.Frames(b)
	var again []byte
	for _, f := range frames {
		if f.At != len(again) || f.Kind < 0 || f.Kind > 255 {
			t.Fatalf("frame %v of %x", f, b)
		}
		again = append(again, wire.Frame(byte(f.Kind), f.Body)...)
	}
	if !bytes.Equal(again, b[:behind]) {
		t.Fatalf("frames of %x", b)
	}
}

func TestWhatIsReadIsWrittenAgain(t *testing.T) {
	fewBytes(4, func(b []byte) { checkWrittenAgain(t, b) })
	r := rand.New(rand.NewPCG(4, 4))
	for range 1000 {
		checkWrittenAgain(t, random(r))
		b := make([]byte, r.IntN(10))
		for i := range b {
			b[i] = byte(r.Uint32())
		}
		checkWrittenAgain(t, b)
	}
}

// P4.4; readers stand in reader_test.go

// roomy is b with spare room behind it that holds bytes of the caller.
func roomy(b []byte) []byte {
	return joined(b, bytes.Repeat([]byte{0xaa}, 64))[:len(b)]
}

// untouched tells whether b is as it was, and the spare room of roomy, too.
func untouched(b, was []byte) bool {
	whole := b[:len(b)+64]
	return bytes.Equal(whole, joined(was, bytes.Repeat([]byte{0xaa}, 64)))
}

func TestArgumentsStayAsTheyAre(t *testing.T) {
	a, b := roomy([]byte("some bytes")), roomy([]byte("and more"))
	rows := [][]byte{a, b, a}
	wire.Pack(rows[:2]...)
	wire.Frame(3, rows[:2]...)
	if !untouched(a, []byte("some bytes")) || !untouched(b, []byte("and more")) || &rows[2][0] != &a[0] {
		t.Error("written fields are others")
	}
	row := wire.Pack([]byte("a"), nil, []byte("bcd"))
	handed := roomy(row)
	if got, err := wire.Unpack(handed, 3); err != nil {
		t.Error(err)
	} else {
		scribble(got...)
	}
	file := joined(wire.Frame(1, []byte("abc")), wire.Frame(2), wire.Frame(3, []byte("d")))
	handedFile := roomy(file)
	for _, f := range firstOf(wire.Frames(handedFile)) {
		scribble(f.Body)
	}
	if !untouched(handed, row) || !untouched(handedFile, file) {
		t.Error("read bytes are others")
	}
}

func firstOf(frames []api.Frame, _ int) []api.Frame { return frames }

// scribble overwrites rows with all their spare room, and puts something behind them.
func scribble(rows ...[]byte) {
	for _, row := range rows {
		row = row[:cap(row)]
		for i := range row {
			row[i] = '!'
		}
		_ = append(row, '!')
	}
}

func TestWrittenAnswersAreNewMemory(t *testing.T) {
	field := []byte("field")
	writers := map[string]func() []byte{
		"Var":   func() []byte { return wire.Var(300) },
		"Num":   func() []byte { return wire.Num(300) },
		"Pack":  func() []byte { return wire.Pack(field) },
		"Frame": func() []byte { return wire.Frame(3, field) },
	}
	for name, write := range writers {
		first, second := write(), write()
		want := slices.Clone(first)
		scribble(first)
		if !bytes.Equal(second, want) || !bytes.Equal(write(), want) || string(field) != "field" {
			t.Errorf("%s: an answer shares memory", name)
		}
	}
	packed, framed := wire.Pack(field), wire.Frame(3, field)
	scribble(field)
	if string(packed) != "\x05field" || string(framed) != "\x03\x05field" {
		t.Errorf("%q, %q", packed, framed)
	}
}

func TestReadAnswersAreNewMemory(t *testing.T) {
	fields := [][]byte{[]byte("a"), nil, []byte("bcd"), bytes.Repeat([]byte("x"), 200), []byte("e")}
	row := wire.Pack(fields...)
	var file []byte
	for _, f := range fields {
		file = append(file, wire.Frame(4, f)...)
	}
	for i := range fields {
		got, err := wire.Unpack(row, len(fields))
		if err != nil {
			t.Fatal(err)
		}
		frames := firstOf(wire.Frames(file))
		scribble(got[i], frames[i].Body)
		for j, want := range fields {
			if j != i && (!bytes.Equal(got[j], want) || !bytes.Equal(frames[j].Body, want)) {
				t.Errorf("row %d shares memory with row %d", i, j)
			}
		}
	}
	got, err := wire.Unpack(row, len(fields))
	frames := firstOf(wire.Frames(file))
	scribble(row, file)
	if err != nil || !sameRows(got, fields) {
		t.Errorf("Unpack keeps what it was handed: %v", err)
	}
	for i, f := range frames {
		if !bytes.Equal(f.Body, fields[i]) {
			t.Errorf("Frames keeps what it was handed: %q", f.Body)
		}
	}
}
