package sha_test

import (
	"bytes"
	"crypto/hkdf"
	"crypto/hmac"
	"crypto/sha256"
	"encoding/hex"
	"math"
	"math/rand/v2"
	"slices"
	"strings"
	"testing"

	"amphora/api"
	"amphora/sha"
)

// The library's own SHA-256, HMAC and HKDF are the second account that these tests hold the program against.

func libSum(m []byte) [32]byte { return sha256.Sum256(m) }

func libMac(key, m []byte) [32]byte {
	h := hmac.New(sha256.New, key)
	h.Write(m)
	return [32]byte(h.Sum(nil))
}

func libDerive(t *testing.T, salt, secret, info []byte, n int) []byte {
	t.Helper()
	out, err := hkdf.Key(sha256.New, secret, salt, string(info), n)
	if err != nil {
		t.Fatal(err)
	}
	return out
}

func unhex(t *testing.T, text string) []byte {
	t.Helper()
	b, err := hex.DecodeString(strings.ReplaceAll(text, " ", ""))
	if err != nil {
		t.Fatal(err)
	}
	return b
}

func is(t *testing.T, got [32]byte, text string) {
	t.Helper()
	if !bytes.Equal(got[:], unhex(t, text)) {
		t.Errorf("answered %x, not %s", got, text)
	}
}

func same(t *testing.T, what string, got, want [32]byte) {
	t.Helper()
	if got != want {
		t.Fatalf("%s: answered %x, not %x", what, got, want)
	}
}

// some is n bytes that differ from one another by a rule of their own.
func some(n int) []byte {
	out := make([]byte, n)
	for i := range out {
		out[i] = byte(i*i + 7*i + i>>8)
	}
	return out
}

// cut is m in random pieces, some of them empty or nil.
func cut(r *rand.Rand, m []byte) [][]byte {
	var out [][]byte
	for len(m) > 0 {
		if r.IntN(5) == 0 {
			out = append(out, nil, []byte{})
		}
		n := 1 + r.IntN(min(len(m), 1+r.IntN(150)))
		out = append(out, m[:n])
		m = m[n:]
	}
	return out
}

// P2.1

func TestSumOfKnownRows(t *testing.T) {
	is(t, sha.Sum(), "e3b0c442 98fc1c14 9afbf4c8 996fb924 27ae41e4 649b934c a495991b 7852b855")
	is(t, sha.Sum(nil, []byte{}), "e3b0c442 98fc1c14 9afbf4c8 996fb924 27ae41e4 649b934c a495991b 7852b855")
	is(t, sha.Sum([]byte("a"), []byte("bc")), "ba7816bf 8f01cfea 414140de 5dae2223 b00361a3 96177a9c b410ff61 f20015ad")
	is(t, sha.Sum([]byte("abcdbcdecdefdefgefghfghighijhijkijkljklmklmnlmnomnopnopq")), "248d6a61 d20638b8 e5c02693 0c3e6039 a33ce459 64ff2167 f6ecedd4 19db06c1")
	is(t, sha.Sum(bytes.Repeat([]byte("a"), 1000000)), "cdc76e5c 9914fb92 81a1c7e2 84d73e67 f1809a48 a497200e 046d39cc c7112cd0")
}

func TestSumAtAllLengths(t *testing.T) {
	for n := range 600 {
		m := some(n)
		same(t, "Sum", sha.Sum(m), libSum(m))
		for i, b := range m {
			m[i] = 0xff - b
		}
		same(t, "Sum", sha.Sum(m), libSum(m))
	}
}

func TestSumTakesPartsOneBehindTheOther(t *testing.T) {
	m := some(200)
	for n := range len(m) + 1 {
		same(t, "two parts", sha.Sum(m[:n], m[n:]), libSum(m))
		same(t, "four parts", sha.Sum(nil, m[:n], nil, m[n:]), libSum(m))
	}
}

// The length in bits has more than 32 bits here.
func TestSumOfALongRow(t *testing.T) {
	piece := some(1 << 20)
	h, lib := sha.New(), sha256.New()
	for range 513 {
		h.Write(piece)
		lib.Write(piece)
	}
	if h.Len() != 513<<20 {
		t.Error(h.Len())
	}
	same(t, "Sum", h.Sum(), [32]byte(lib.Sum(nil)))
}

func TestMacOfKnownRows(t *testing.T) {
	is(t, sha.Mac([]byte("Jefe"), []byte("what do ya want for nothing?")), "5bdcc146 bf60754e 6a042426 089575c7 5a003f08 9d273983 9dec58b9 64ec3843")
	is(t, sha.Mac(bytes.Repeat([]byte{0x0b}, 20), []byte("Hi There")), "b0344c61 d8db3853 5ca8afce af0bf12b 881dc200 c9833da7 26e9376c 2e32cff7")
	is(t, sha.Mac(bytes.Repeat([]byte{0xaa}, 131), []byte("Test Using Larger Than Block-Size Key - Hash Key First")), "60e43159 1ee0b67f 0d8a26aa cbf5b77f 8e0bc621 3728c514 0546040f 0ee37f54")
	is(t, sha.Mac(nil), "b613679a 0814d9ec 772f95d7 78c35fc5 ff1697c4 93715653 c6c71214 4292c5ad")
}

func TestMacAtAllKeysAndLengths(t *testing.T) {
	for k := range 140 {
		key := some(k)
		for _, n := range []int{0, 1, 20, 54, 55, 56, 63, 64, 65, 119, 120, 200} {
			m := some(n)
			same(t, "Mac", sha.Mac(key, m), libMac(key, m))
			same(t, "Mac of two parts", sha.Mac(key, m[:n/3], m[n/3:]), libMac(key, m))
		}
	}
	same(t, "Mac of no part", sha.Mac(some(40)), libMac(some(40), nil))
}

// A key of 64 bytes is taken as it is, a longer one by its sum.
func TestMacOfALongKey(t *testing.T) {
	m := []byte("m")
	short := sha.Sum(some(65))
	same(t, "65 bytes", sha.Mac(some(65), m), sha.Mac(short[:], m))
	short = sha.Sum(some(64))
	if sha.Mac(some(64), m) == sha.Mac(short[:], m) {
		t.Error("a key of 64 bytes was summed")
	}
	same(t, "bytes 0 behind", sha.Mac([]byte{1, 2}, m), sha.Mac(append([]byte{1, 2}, make([]byte, 62)...), m))
}

func TestDeriveOfKnownRows(t *testing.T) {
	for _, x := range []struct {
		salt, secret, info string
		n                  int
		want               string
	}{
		{"000102030405060708090a0b0c", strings.Repeat("0b", 22), "f0f1f2f3f4f5f6f7f8f9", 42, "3cb25f25 faacd57a 90434f64 d0362f2a 2d2d0a90 cf1a5a4c 5db02d56 ecc4c5bf 34007208 d5b88718 5865"},
		{hex.EncodeToString(row(0x60, 80)), hex.EncodeToString(row(0, 80)), hex.EncodeToString(row(0xb0, 80)), 82, "b11e398dc80327a1c8e7f78c596a4934 4f012eda2d4efad8a050cc4c19afa97c 59045a99cac7827271cb41c65e590e09 da3275600c2f09b8367793a9aca3db71 cc30c58179ec3e87c14c01d5c1f3434f 1d87"},
		{"", strings.Repeat("0b", 22), "", 42, "8da4e775a563c18f715f802a063c5a31 b8a11f5c5ee1879ec3454e5f3c738d2d 9d201395faa4b61a96c8"},
	} {
		got, err := sha.Derive(unhex(t, x.salt), unhex(t, x.secret), unhex(t, x.info), x.n)
		if err != nil || !bytes.Equal(got, unhex(t, x.want)) {
			t.Errorf("answered %x %v, not %s", got, err, x.want)
		}
	}
}

func row(from byte, n int) []byte {
	out := make([]byte, n)
	for i := range out {
		out[i] = from + byte(i)
	}
	return out
}

func TestDeriveAtAllLengths(t *testing.T) {
	salt, secret, info := some(20), some(70), some(90)
	whole := libDerive(t, salt, secret, info, api.MaxDerive)
	for n := range api.MaxDerive + 1 {
		if n > 200 && n < api.MaxDerive-70 && n%512 > 0 {
			continue
		}
		got, err := sha.Derive(salt, secret, info, n)
		if err != nil || !bytes.Equal(got, whole[:n]) {
			t.Fatalf("%d bytes: %x %v", n, got, err)
		}
	}
}

func TestDeriveOfAllSizes(t *testing.T) {
	sizes := []int{0, 1, 31, 32, 33, 63, 64, 65, 130}
	for _, a := range sizes {
		for _, b := range sizes {
			for _, c := range sizes {
				salt, secret, info := some(a), some(b), some(c)
				got, err := sha.Derive(salt, secret, info, 100)
				if err != nil || !bytes.Equal(got, libDerive(t, salt, secret, info, 100)) {
					t.Fatalf("%d %d %d: %x %v", a, b, c, got, err)
				}
			}
		}
	}
}

func TestDeriveWithoutSalt(t *testing.T) {
	want, _ := sha.Derive(make([]byte, 32), []byte("s"), []byte("i"), 64)
	for _, salt := range [][]byte{nil, {}} {
		got, err := sha.Derive(salt, []byte("s"), []byte("i"), 64)
		if err != nil || !bytes.Equal(got, want) {
			t.Errorf("%x %v", got, err)
		}
	}
	got, err := sha.Derive(nil, nil, nil, 0)
	if err != nil || len(got) != 0 {
		t.Errorf("%x %v", got, err)
	}
}

func TestDeriveOutOfRange(t *testing.T) {
	for _, n := range []int{-1, -32, api.MaxDerive + 1, api.MaxDerive + 32, math.MinInt, math.MaxInt} {
		got, err := sha.Derive([]byte("salt"), []byte("s"), []byte("i"), n)
		if err != api.ErrRange || got != nil {
			t.Errorf("%d bytes: %x %v", n, got, err)
		}
	}
}

// P2.2

func TestObjectsToWhichNothingWasWritten(t *testing.T) {
	h, k := sha.New(), sha.NewMac(some(10))
	h.Write()
	h.Write(nil, []byte{})
	k.Write()
	k.Write(nil, []byte{})
	if h.Len() != 0 || k.Len() != 0 {
		t.Error(h.Len(), k.Len())
	}
	same(t, "Hasher", h.Sum(), sha.Sum())
	same(t, "Keyed", k.Sum(), sha.Mac(some(10)))
}

func TestObjectsByteByByte(t *testing.T) {
	for _, size := range []int{0, 5, 64, 100} {
		key, m := some(size), some(300)
		h, k := sha.New(), sha.NewMac(key)
		for i := range m {
			h.Write(m[i : i+1])
			k.Write(m[i : i+1])
			same(t, "Hasher", h.Sum(), libSum(m[:i+1]))
			same(t, "Keyed", k.Sum(), libMac(key, m[:i+1]))
			same(t, "Hasher, again", h.Sum(), libSum(m[:i+1]))
			same(t, "Keyed, again", k.Sum(), libMac(key, m[:i+1]))
			if h.Len() != i+1 || k.Len() != i+1 {
				t.Fatal(i, h.Len(), k.Len())
			}
		}
	}
}

func TestObjectsWhateverThePieces(t *testing.T) {
	r := rand.New(rand.NewPCG(2, 2))
	for range 300 {
		key, m := some(r.IntN(130)), some(r.IntN(2000))
		h, k := sha.New(), sha.NewMac(key)
		n := 0
		for pieces := cut(r, m); len(pieces) > 0; {
			now := 1 + r.IntN(len(pieces))
			h.Write(pieces[:now]...)
			k.Write(pieces[:now]...)
			for _, p := range pieces[:now] {
				n += len(p)
			}
			pieces = pieces[now:]
			if h.Len() != n || k.Len() != n {
				t.Fatal(n, h.Len(), k.Len())
			}
			same(t, "Hasher", h.Sum(), libSum(m[:n]))
			same(t, "Keyed", k.Sum(), libMac(key, m[:n]))
		}
		same(t, "Hasher", h.Sum(), sha.Sum(m))
		same(t, "Keyed", k.Sum(), sha.Mac(key, m))
	}
}

func TestObjectsAreApart(t *testing.T) {
	a, b := sha.New(), sha.New()
	j, k := sha.NewMac([]byte("j")), sha.NewMac([]byte("k"))
	for i := range 100 {
		a.Write([]byte{byte(i)})
		b.Write([]byte{byte(i), 1})
		j.Write([]byte{byte(i)})
		k.Write([]byte{byte(i), 1})
	}
	var one, two []byte
	for i := range 100 {
		one = append(one, byte(i))
		two = append(two, byte(i), 1)
	}
	same(t, "a", a.Sum(), libSum(one))
	same(t, "b", b.Sum(), libSum(two))
	same(t, "j", j.Sum(), libMac([]byte("j"), one))
	same(t, "k", k.Sum(), libMac([]byte("k"), two))
}

func TestNilObjects(t *testing.T) {
	var h *sha.Hasher
	var k *sha.Keyed
	h.Write()
	h.Write([]byte("a"), some(100))
	k.Write()
	k.Write([]byte("a"), some(100))
	if h.Len() != 0 || k.Len() != 0 || h.Sum() != [32]byte{} || k.Sum() != [32]byte{} {
		t.Error(h.Len(), k.Len(), h.Sum(), k.Sum())
	}
}

// P2.3

func TestEqual(t *testing.T) {
	if !sha.Equal(nil, nil) || !sha.Equal(nil, []byte{}) || !sha.Equal([]byte{}, nil) {
		t.Error("nil and empty")
	}
	for _, n := range []int{1, 2, 7, 8, 9, 32, 33, 100} {
		a, b := some(n), some(n)
		if !sha.Equal(a, b) || !sha.Equal(a, a) {
			t.Error(n, "the same")
		}
		for i := range a {
			for bit := range 8 {
				b[i] ^= 1 << bit
				if sha.Equal(a, b) || sha.Equal(b, a) {
					t.Error(n, i, bit)
				}
				b[i] ^= 1 << bit
			}
			if sha.Equal(a, b[:i]) || sha.Equal(b[:i], a) {
				t.Error(n, i, "a piece")
			}
		}
		if sha.Equal(a, append(b, 0)) || sha.Equal(append(b, 0), a) {
			t.Error(n, "a byte more")
		}
	}
	// Unlike in two places by the same bits, and in places that add up to nothing.
	if sha.Equal([]byte{1, 1}, []byte{3, 3}) || sha.Equal([]byte{1, 2}, []byte{2, 1}) || sha.Equal([]byte{0, 0}, []byte{1, 255}) {
		t.Error("unlike in two places")
	}
}

// P2.4

// roomy is m with spare room behind it; whole shows the room as well.
func roomy(m []byte) (part, whole []byte) {
	whole = append(slices.Clone(m), bytes.Repeat([]byte{0xee}, 80)...)
	return whole[:len(m)], whole
}

func TestArgumentsAreNotChanged(t *testing.T) {
	for _, n := range []int{0, 3, 32, 63, 64, 65, 200} {
		a, wholeA := roomy(some(n))
		b, wholeB := roomy(some(n + 1))
		c, wholeC := roomy(some(n + 2))
		rest := []byte("rest")
		parts := append(make([][]byte, 0, 4), a, b, c, rest)[:3]
		sha.Sum(parts...)
		sha.Mac(a, parts...)
		h, k := sha.New(), sha.NewMac(a)
		h.Write(parts...)
		k.Write(parts...)
		h.Sum()
		k.Sum()
		sha.Derive(a, b, c, 100)
		sha.Equal(a, b)
		sha.Equal(b, c[:len(b)])
		for i, whole := range [][]byte{wholeA, wholeB, wholeC} {
			if !bytes.Equal(whole[:n+i], some(n+i)) || !bytes.Equal(whole[n+i:], bytes.Repeat([]byte{0xee}, 80)) {
				t.Errorf("argument %d of %d bytes was changed", i, n)
			}
		}
		if n > 0 && (&parts[0][0] != &a[0] || &parts[2][0] != &c[0]) || string(parts[:4][3]) != "rest" {
			t.Error("the list of parts was changed")
		}
	}
}

func TestArgumentsAreNotKept(t *testing.T) {
	for _, n := range []int{1, 10, 63, 64, 65, 150} {
		key, m := some(n), some(n)
		h, k := sha.New(), sha.NewMac(key)
		clear(key)
		h.Write(m)
		k.Write(m)
		clear(m)
		h.Write([]byte("more"))
		k.Write([]byte("more"))
		all := append(some(n), "more"...)
		same(t, "Hasher", h.Sum(), libSum(all))
		same(t, "Keyed", k.Sum(), libMac(some(n), all))
	}
}

func TestWritingKeepsNoBytes(t *testing.T) {
	h, k, m := sha.New(), sha.NewMac(nil), some(1<<16)
	if n := testing.AllocsPerRun(10, func() { h.Write(m); k.Write(m) }); n != 0 {
		t.Error(n, "pieces of memory were taken by writing")
	}
}

func TestAnswersAreNewMemory(t *testing.T) {
	salt, secret, info := some(32), some(32), some(32)
	a, _ := sha.Derive(salt, secret, info, 64)
	b, _ := sha.Derive(salt, secret, info, 64)
	clear(a)
	if want := libDerive(t, salt, secret, info, 64); !bytes.Equal(b, want) {
		t.Error("two answers share memory")
	}
	clear(salt)
	clear(secret)
	clear(info)
	if want := libDerive(t, some(32), some(32), some(32), 64); !bytes.Equal(b, want) {
		t.Error("an answer shares memory with an argument")
	}
}
