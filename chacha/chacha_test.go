package chacha_test

import (
	"bytes"
	"crypto/sha256"
	"encoding/binary"
	"encoding/hex"
	"math"
	"math/bits"
	"math/rand/v2"
	"slices"
	"testing"

	"amphora/api"
	"amphora/chacha"
)

// plain is a second account of a block: a square of words, its columns turned so that the diagonals are columns.
func plain(key [32]byte, counter uint32, nonce [12]byte) []byte {
	row := append([]byte("expand 32-byte k"), key[:]...)
	row = binary.LittleEndian.AppendUint32(row, counter)
	row = append(row, nonce[:]...)
	var x [4][4]uint32
	for i := range 16 {
		x[i/4][i%4] = binary.LittleEndian.Uint32(row[4*i:])
	}
	for range 10 {
		columns(&x)
		turn(&x, 1)
		columns(&x)
		turn(&x, 3)
	}
	var out []byte
	for i := range 16 {
		out = binary.LittleEndian.AppendUint32(out, x[i/4][i%4]+binary.LittleEndian.Uint32(row[4*i:]))
	}
	return out
}

func columns(x *[4][4]uint32) {
	for c := range 4 {
		for i, by := range []int{16, 12, 8, 7} {
			to, with, other := 0, 1, 3
			if i%2 == 1 {
				to, with, other = 2, 3, 1
			}
			x[to][c] += x[with][c]
			x[other][c] = bits.RotateLeft32(x[other][c]^x[to][c], by)
		}
	}
}

func turn(x *[4][4]uint32, by int) {
	for r := range 4 {
		was := x[r]
		for c := range 4 {
			x[r][c] = was[(c+r*by)%4]
		}
	}
}

// laid is n bytes xor those of the stream from at on, byte by byte from the second account.
func laid(key [32]byte, nonce [12]byte, at int, data []byte) []byte {
	var out, block []byte
	for i, c := range data {
		if i == 0 || (at+i)%64 == 0 {
			block = plain(key, uint32((at+i)/64), nonce)
		}
		out = append(out, c^block[(at+i)%64])
	}
	return out
}

func unhex(t *testing.T, text string) []byte {
	t.Helper()
	b, err := hex.DecodeString(text)
	if err != nil {
		t.Fatal(err)
	}
	return b
}

func rising(from, n int) []byte {
	out := make([]byte, n)
	for i := range out {
		out[i] = byte(from + i)
	}
	return out
}

func random(r *rand.Rand, n int) []byte {
	out := make([]byte, n)
	for i := range out {
		out[i] = byte(r.Uint32())
	}
	return out
}

var (
	someKey   = [32]byte(rising(0, 32))
	someNonce = [12]byte(rising(200, 12))
)

func xor(t *testing.T, key [32]byte, nonce [12]byte, at int, data []byte) []byte {
	t.Helper()
	out, err := chacha.XOR(key, nonce, at, data)
	if err != nil {
		t.Fatalf("XOR at %d of %d bytes: %v", at, len(data), err)
	}
	return out
}

func same(t *testing.T, what string, got, want []byte) {
	t.Helper()
	if !bytes.Equal(got, want) {
		t.Fatalf("%s: answered %x, not %x", what, got, want)
	}
}

// P3.1

func TestKnownBlocks(t *testing.T) {
	none, all := [32]byte{}, [32]byte(bytes.Repeat([]byte{255}, 32))
	for _, c := range []struct {
		key     [32]byte
		counter uint32
		nonce   [12]byte
		want    string
	}{
		{someKey, 1, [12]byte{3: 9, 7: 0x4a}, "10f1e7e4d13b5915500fdd1fa32071c4c7d1f4c733c068030422aa9ac3d46c4ed2826446079faa0914c2d705d98b02a2b5129cd1de164eb9cbd083e8a2503c4e"},
		{none, 0, [12]byte{}, "76b8e0ada0f13d90405d6ae55386bd28bdd219b8a08ded1aa836efcc8b770dc7da41597c5157488d7724e03fb8d84a376a43b8f41518a11cc387b669b2ee6586"},
		{none, 1, [12]byte{}, "9f07e7be5551387a98ba977c732d080dcb0f29a048e3656912c6533e32ee7aed29b721769ce64e43d57133b074d839d531ed1f28510afb45ace10a1f4b794d6f"},
		{[32]byte{31: 1}, 1, [12]byte{}, "3aeb5224ecf849929b9d828db1ced4dd832025e8018b8160b82284f3c949aa5a8eca00bbb4a73bdad192b5c42f73f2fd4e273644c8b36125a64addeb006c13a0"},
		{[32]byte{1: 255}, 2, [12]byte{}, "72d54dfbf12ec44b362692df94137f328fea8da73990265ec1bbbea1ae9af0ca13b25aa26cb4a648cb9b9d1be65b2c0924a66c54d545ec1b7374f4872e99f096"},
		{none, 0, [12]byte{11: 2}, "c2c64d378cd536374ae204b9ef933fcd1a8b2288b3dfa49672ab765b54ee27c78a970e0e955c14f3a88e741b97c286f75f8fc299e8148362fa198a39531bed6d"},
		{someKey, math.MaxUint32, someNonce, "23f6f699b1bed1c567d6c00ac8579040f254a7e6aa54b23f212fce40e417612787d8a3cc46d868f61efdbca7b1534dbc4af3da79c62b089d94ab711243fe6f02"},
		{all, 1 << 31, [12]byte(bytes.Repeat([]byte{255}, 12)), "cc0f55f09878471bdf93880d15edbb04166e4f50e86c52b0f8ca39a27e3889ec123b29d24fe033c08a003aaa9d74e2204f85e182526d369a66b84e9e95a94e1a"},
	} {
		got := chacha.Block(c.key, c.counter, c.nonce)
		same(t, "block", got[:], unhex(t, c.want))
		same(t, "second account", plain(c.key, c.counter, c.nonce), unhex(t, c.want))
	}
}

func TestBlockOfRandomArguments(t *testing.T) {
	r := rand.New(rand.NewPCG(3, 1))
	for range 500 {
		key, counter, nonce := [32]byte(random(r, 32)), r.Uint32(), [12]byte(random(r, 12))
		got := chacha.Block(key, counter, nonce)
		same(t, "block", got[:], plain(key, counter, nonce))
	}
}

func TestKnownRow(t *testing.T) {
	text := []byte("Ladies and Gentlemen of the class of '99: If I could offer you only one tip for the future, sunscreen would be it.")
	want := unhex(t, "6e2e359a2568f98041ba0728dd0d6981e97e7aec1d4360c20a27afccfd9fae0bf91b65c5524733ab8f593dabcd62b3571639d624e65152ab8f530c359f0861d807ca0dbf500d6a6156a38e088a22b65e52bc514d16ccf806818ce91ab77937365af90bbf74a35be6b40b8eedf2785e42874d")
	same(t, "row", xor(t, someKey, [12]byte{7: 0x4a}, 64, text), want)
}

func TestLongRow(t *testing.T) {
	got := sha256.Sum256(xor(t, someKey, [12]byte(rising(100, 12)), 5*64, make([]byte, 100000)))
	same(t, "sum of a stream's bytes", got[:], unhex(t, "57cad9d4f520f166b8cc0815921aba642e55e1b513d8cf56b71a9af64cf5c230"))
}

func TestXORRoundTheBlocksEdges(t *testing.T) {
	data := rising(17, 200)
	for at := range 130 {
		for n := range 140 {
			same(t, "row", xor(t, someKey, someNonce, at, data[:n]), laid(someKey, someNonce, at, data[:n]))
		}
	}
}

func TestXORFarInTheStream(t *testing.T) {
	data := rising(90, 150)
	for _, at := range []int{1<<31 - 70, 1<<32 - 1, 1<<32 + 64, 1<<37 - 64, 1<<37 + 63, api.MaxStream - 150} {
		same(t, "row", xor(t, someKey, someNonce, at, data), laid(someKey, someNonce, at, data))
	}
	last := chacha.Block(someKey, math.MaxUint32, someNonce)
	same(t, "last block", xor(t, someKey, someNonce, api.MaxStream-64, make([]byte, 64)), last[:])
	same(t, "last byte", xor(t, someKey, someNonce, api.MaxStream-1, make([]byte, 1)), last[63:])
}

func TestXOROutsideOfTheStream(t *testing.T) {
	for _, c := range []struct {
		at, n   int
		refused bool
	}{
		{0, 0, false}, {0, 1, false}, {api.MaxStream, 0, false}, {api.MaxStream - 3, 3, false}, {api.MaxStream - 64, 64, false},
		{-1, 0, true}, {-1, 1, true}, {-64, 64, true}, {-1, 200, true}, {math.MinInt, 0, true}, {math.MinInt, 5, true},
		{api.MaxStream, 1, true}, {api.MaxStream - 3, 4, true}, {api.MaxStream - 64, 65, true}, {api.MaxStream + 1, 0, true},
		{api.MaxStream + 64, 1, true}, {math.MaxInt, 0, true}, {math.MaxInt, 1, true}, {math.MaxInt - 5, 70, true},
	} {
		out, err := chacha.XOR(someKey, someNonce, c.at, make([]byte, c.n))
		if c.refused && (err != api.ErrCounter || out != nil) || !c.refused && (err != nil || len(out) != c.n) {
			t.Errorf("at %d, %d bytes: answered %x, %v", c.at, c.n, out, err)
		}
	}
}

func TestXOROfNothing(t *testing.T) {
	for _, none := range [][]byte{nil, {}} {
		if out := xor(t, someKey, someNonce, 5, none); len(out) != 0 {
			t.Errorf("answered %x", out)
		}
	}
}

// P3.2

func TestXORTwiceIsTheData(t *testing.T) {
	r := rand.New(rand.NewPCG(3, 2))
	for range 300 {
		key, nonce, at := [32]byte(random(r, 32)), [12]byte(random(r, 12)), r.IntN(api.MaxStream-500)
		data := random(r, r.IntN(500))
		out := xor(t, key, nonce, at, data)
		same(t, "row", out, laid(key, nonce, at, data))
		same(t, "twice", xor(t, key, nonce, at, out), data)
		from := r.IntN(len(data) + 1)
		to := from + r.IntN(len(data)-from+1)
		same(t, "piece", xor(t, key, nonce, at+from, data[from:to]), out[from:to])
	}
}

// P3.3

// cut is m in random pieces, some of them empty or nil.
func cut(r *rand.Rand, m []byte) [][]byte {
	var out [][]byte
	for len(m) > 0 {
		if r.IntN(5) == 0 {
			out = append(out, nil, []byte{})
		}
		n := 1 + r.IntN(min(len(m), 90))
		out = append(out, m[:n])
		m = m[n:]
	}
	return out
}

func TestNewStandsAtItsFirstByte(t *testing.T) {
	s := chacha.New(someKey, someNonce)
	if s.At() != 0 {
		t.Error(s.At())
	}
	out, err := s.XOR(make([]byte, 64))
	block := chacha.Block(someKey, 0, someNonce)
	if err != nil || !bytes.Equal(out, block[:]) || s.At() != 64 {
		t.Error(out, err, s.At())
	}
}

func TestStreamInAnyOrderOfCalls(t *testing.T) {
	r := rand.New(rand.NewPCG(3, 3))
	edges := []int{-1, 0, 1, 63, 64, 65, api.MaxStream - 200, api.MaxStream - 1, api.MaxStream, api.MaxStream + 1, math.MinInt, math.MaxInt}
	for range 60 {
		key, nonce := [32]byte(random(r, 32)), [12]byte(random(r, 12))
		s, at := chacha.New(key, nonce), 0
		for range 60 {
			if r.IntN(3) == 0 {
				to := edges[r.IntN(len(edges))]
				if r.IntN(2) == 0 {
					to = r.IntN(api.MaxStream)
				}
				err := s.Seek(to)
				if to < 0 || to > api.MaxStream {
					if err != api.ErrCounter {
						t.Fatalf("Seek(%d): %v", to, err)
					}
				} else if err != nil {
					t.Fatalf("Seek(%d): %v", to, err)
				} else {
					at = to
				}
			} else {
				data := random(r, r.IntN(250))
				out, err := s.XOR(cut(r, data)...)
				want, refused := chacha.XOR(key, nonce, at, data)
				if refused != nil {
					if err != api.ErrCounter || out != nil {
						t.Fatalf("at %d, %d bytes: answered %x, %v", at, len(data), out, err)
					}
				} else if err != nil {
					t.Fatalf("at %d, %d bytes: %v", at, len(data), err)
				} else {
					same(t, "row", out, want)
					at += len(data)
				}
			}
			if s.At() != at {
				t.Fatalf("stands at %d, not at %d", s.At(), at)
			}
		}
	}
}

func TestStreamAtItsEnd(t *testing.T) {
	s := chacha.New(someKey, someNonce)
	if err := s.Seek(api.MaxStream - 3); err != nil {
		t.Fatal(err)
	}
	for _, parts := range [][][]byte{{{1, 2, 3, 4}}, {{1, 2}, {3, 4}}, {{1, 2, 3}, nil, {4}}, {make([]byte, 500)}} {
		if out, err := s.XOR(parts...); err != api.ErrCounter || out != nil || s.At() != api.MaxStream-3 {
			t.Errorf("answered %x, %v, stands at %d", out, err, s.At())
		}
	}
	out, err := s.XOR([]byte{1}, nil, []byte{2, 3})
	if err != nil || !bytes.Equal(out, laid(someKey, someNonce, api.MaxStream-3, []byte{1, 2, 3})) || s.At() != api.MaxStream {
		t.Errorf("answered %x, %v, stands at %d", out, err, s.At())
	}
	for _, parts := range [][][]byte{{}, {nil}, {{}, {}}} {
		if out, err := s.XOR(parts...); err != nil || len(out) != 0 || s.At() != api.MaxStream {
			t.Errorf("answered %x, %v, stands at %d", out, err, s.At())
		}
	}
	if out, err := s.XOR([]byte{0}); err != api.ErrCounter || out != nil || s.At() != api.MaxStream {
		t.Errorf("answered %x, %v, stands at %d", out, err, s.At())
	}
}

func TestPartsThatAreTogetherAboveTheStream(t *testing.T) {
	s := chacha.New(someKey, someNonce)
	if _, err := s.XOR([]byte("abc")); err != nil {
		t.Fatal(err)
	}
	parts := slices.Repeat([][]byte{make([]byte, 1<<24)}, 1<<15)
	if out, err := s.XOR(parts...); err != api.ErrCounter || out != nil || s.At() != 3 {
		t.Errorf("answered %d bytes, %v, stands at %d", len(out), err, s.At())
	}
}

func TestSeekOutsideOfTheStreamStays(t *testing.T) {
	s := chacha.New(someKey, someNonce)
	if err := s.Seek(100); err != nil || s.At() != 100 {
		t.Fatal(err, s.At())
	}
	for _, at := range []int{-1, -64, math.MinInt, api.MaxStream + 1, api.MaxStream + 64, math.MaxInt} {
		if err := s.Seek(at); err != api.ErrCounter || s.At() != 100 {
			t.Errorf("Seek(%d): %v, stands at %d", at, err, s.At())
		}
	}
	for _, at := range []int{api.MaxStream, 0, api.MaxStream - 1, 7} {
		if err := s.Seek(at); err != nil || s.At() != at {
			t.Errorf("Seek(%d): %v, stands at %d", at, err, s.At())
		}
	}
}

func TestNilStream(t *testing.T) {
	var s *chacha.Stream
	if s.At() != 0 {
		t.Error(s.At())
	}
	for _, parts := range [][][]byte{{}, {nil}, {{1}}} {
		if out, err := s.XOR(parts...); err != api.ErrCounter || out != nil {
			t.Errorf("answered %x, %v", out, err)
		}
	}
	for _, at := range []int{0, 5, -1, api.MaxStream + 1} {
		if err := s.Seek(at); err != api.ErrCounter {
			t.Errorf("Seek(%d): %v", at, err)
		}
	}
}

func TestStreamsGoTheirOwnWays(t *testing.T) {
	a, b := chacha.New(someKey, someNonce), chacha.New(someKey, someNonce)
	if err := a.Seek(70); err != nil {
		t.Fatal(err)
	}
	out, err := b.XOR(make([]byte, 10))
	if err != nil || a.At() != 70 || b.At() != 10 {
		t.Error(err, a.At(), b.At())
	}
	same(t, "row", out, laid(someKey, someNonce, 0, make([]byte, 10)))
}

// P3.4

func TestArgumentsStayAsTheyAre(t *testing.T) {
	whole := rising(3, 300)
	data := whole[:100] // the spare room behind it holds bytes of the caller
	xor(t, someKey, someNonce, 30, data)
	s := chacha.New(someKey, someNonce)
	parts := [][]byte{whole[:50], whole[50:60], whole[40:150]}
	was := slices.Clone(parts)
	if _, err := s.XOR(parts[:2]...); err != nil {
		t.Fatal(err)
	}
	if _, err := s.XOR(parts...); err != nil {
		t.Fatal(err)
	}
	same(t, "handed in", whole, rising(3, 300))
	for i := range parts {
		if &parts[i][0] != &was[i][0] || len(parts[i]) != len(was[i]) {
			t.Errorf("part %d is another", i)
		}
	}
}

func TestAnswersAreNewMemory(t *testing.T) {
	data := rising(3, 100)
	want := laid(someKey, someNonce, 0, data)
	first := xor(t, someKey, someNonce, 0, data)
	s := chacha.New(someKey, someNonce)
	second, err := s.XOR(data[:40])
	if err != nil {
		t.Fatal(err)
	}
	third, err := s.XOR(data[40:])
	if err != nil {
		t.Fatal(err)
	}
	clear(data)
	same(t, "first", first, want)
	clear(first[:cap(first)])
	same(t, "second", second, want[:40])
	clear(second[:cap(second)])
	same(t, "third", third, want[40:])
	clear(third[:cap(third)])
	fourth, err := s.XOR(make([]byte, 100))
	if err != nil {
		t.Fatal(err)
	}
	same(t, "fourth", fourth, laid(someKey, someNonce, 100, make([]byte, 100)))
}

func TestOnePartTwice(t *testing.T) {
	part := rising(8, 70)
	s := chacha.New(someKey, someNonce)
	out, err := s.XOR(part, part)
	if err != nil {
		t.Fatal(err)
	}
	same(t, "row", out, laid(someKey, someNonce, 0, append(slices.Clone(part), part...)))
}
