package ustar_test

import (
	"math"
	"math/rand/v2"
	"testing"

	"amphora/api"
	"amphora/ustar"
)

// lookEncode holds Encode against the second account, and Decode of its block against the header.
func lookEncode(t *testing.T, h api.Header) bool {
	t.Helper()
	got, err := ustar.Encode(h)
	if !plainFits(h) {
		if len(got) != 0 || err != api.ErrHeader {
			t.Errorf("Encode of %s: %q, %v, not ErrHeader", tell(h), got, err)
		}
		return false
	}
	if want := plainBlock(h); string(got) != want || err != nil {
		t.Errorf("Encode of %s: %q, %v, not %q", tell(h), got, err, want)
	}
	if back, err := ustar.Decode(got); back != h || err != nil {
		t.Errorf("Decode of the block of %s: %s, %v", tell(h), tell(back), err)
	}
	return true
}

// lookFits also says what is expected of the second account.
func lookFits(t *testing.T, h api.Header, fits bool) {
	t.Helper()
	if lookEncode(t, h) != fits {
		t.Errorf("%s: whether it fits isn't %v", tell(h), fits)
	}
}

func lookPath(t *testing.T, p string) bool {
	t.Helper()
	_, _, want := plainParts(p)
	if got := ustar.FitsPath(p); got != want {
		t.Errorf("FitsPath of %.300q (%d bytes): %v", p, len(p), got)
	}
	return want
}

// P10.1

// The first example's block, byte by byte.
func TestExampleBlock(t *testing.T) {
	want := "a" + rep("\x00", 99) +
		"0000644\x00" + "0000000\x00" + "0000000\x00" +
		"00000000000\x00" + "00000000000\x00" +
		"007336\x00 " + "0" + rep("\x00", 100) +
		"ustar\x0000" + rep("\x00", 64) +
		"0000000\x00" + "0000000\x00" + rep("\x00", 155) + rep("\x00", 12)
	h := api.Header{Path: "a", Mode: 420, Type: '0'}
	got, err := ustar.Encode(h)
	if string(got) != want || err != nil {
		t.Errorf("%q, %v", got, err)
	}
	if back, err := ustar.Decode([]byte(want)); back != h || err != nil {
		t.Error(tell(back), err)
	}
	lookFits(t, h, true)
}

func TestExamplePaths(t *testing.T) {
	long := "dir/" + rep("x", 100)
	for p, want := range map[string]bool{rep("x", 101): false, long: true, "é": false} {
		if ustar.FitsPath(p) != want || lookPath(t, p) != want {
			t.Errorf("FitsPath of %q isn't %v", p, want)
		}
		lookFits(t, api.Header{Path: p, Type: '5'}, want)
	}
	b, err := ustar.Encode(api.Header{Path: long, Type: '0'})
	if err != nil || string(b[:100]) != rep("x", 100) || string(b[345:500]) != "dir"+rep("\x00", 152) {
		t.Errorf("%q, %v", b, err)
	}
	lookFits(t, api.Header{Path: "a", Type: '5', Size: 1}, false)
}

// A header of all fields at once, written down whole: none of them stands in another's place.
func TestEachFieldInItsPlace(t *testing.T) {
	h := api.Header{Path: "p/" + rep("n", 99) + "m", Mode: 0o1234567, Uid: 0o7654321, Gid: 0o1111111, Time: 0o12345671234, Type: '2', Link: "to"}
	want := rep("n", 99) + "m" +
		"1234567\x00" + "7654321\x00" + "1111111\x00" +
		"00000000000\x00" + "12345671234\x00" +
		"035440\x00 " + "2" + "to" + rep("\x00", 98) +
		"ustar\x0000" + rep("\x00", 64) +
		"0000000\x00" + "0000000\x00" + "p" + rep("\x00", 154) + rep("\x00", 12)
	if got, err := ustar.Encode(h); string(got) != want || err != nil {
		t.Errorf("%q, %v", got, err)
	}
	lookFits(t, h, true)
	lookFits(t, api.Header{Path: "a", Size: 0o76543210123, Type: 'x'}, true)
}

// Which / parts prefix and name is the first one that leaves both within their bounds.
func TestParting(t *testing.T) {
	for _, x := range []struct {
		path, prefix, name string
	}{
		{rep("n", 100), "", rep("n", 100)},
		{"a/" + rep("n", 98), "", "a/" + rep("n", 98)}, // 100 bytes aren't parted
		{"/", "", "/"},
		{"///", "", "///"},
		{"a/" + rep("n", 99), "a", rep("n", 99)},
		{"a/" + rep("n", 100), "a", rep("n", 100)},
		{"a/b/" + rep("n", 97), "a", "b/" + rep("n", 97)},
		{"a/b/" + rep("n", 98), "a", "b/" + rep("n", 98)},
		{"a/b/" + rep("n", 99), "a/b", rep("n", 99)},
		{"a//" + rep("n", 100), "a/", rep("n", 100)},
		{"//" + rep("n", 99), "/", rep("n", 99)},
		{"/a/" + rep("n", 98), "/a", rep("n", 98)},
		{rep("/", 101), "/", rep("/", 99)},
		{rep("/", 102), "/", rep("/", 100)},
		{rep("/", 103), "//", rep("/", 100)},
		{rep("/", 256), rep("/", 155), rep("/", 100)},
		{rep("p", 155) + "/n", rep("p", 155), "n"},
		{rep("p", 155) + "/" + rep("n", 100), rep("p", 155), rep("n", 100)},
		{rep("p", 99) + "/" + rep("q", 55) + "/" + rep("n", 100), rep("p", 99) + "/" + rep("q", 55), rep("n", 100)},
		{rep("p", 99) + "/" + rep("q", 55) + "/" + rep("n", 44), rep("p", 99), rep("q", 55) + "/" + rep("n", 44)},
		{rep("d/", 60) + "n", rep("d/", 10) + "d", rep("d/", 49) + "n"},
	} {
		b, err := ustar.Encode(api.Header{Path: x.path, Type: '0'})
		if err != nil || string(b[:100]) != plainText(x.name, 100) || string(b[345:500]) != plainText(x.prefix, 155) {
			t.Errorf("%q: %q, %v", x.path, b, err)
		}
		lookFits(t, api.Header{Path: x.path, Type: '0'}, true)
	}
	for _, p := range []string{
		"", rep("n", 101), "/" + rep("n", 100), rep("n", 100) + "/", rep("n", 155) + "/", rep("p", 156) + "/n", rep("p", 156) + "/" + rep("n", 99),
		"a/" + rep("n", 101), "a/" + rep("n", 101) + "/", rep("p", 155) + "/" + rep("n", 101), "a/" + rep("p", 154) + "/" + rep("n", 100), rep("/", 257), rep("n", 300), rep("d/", 200),
	} {
		if ustar.FitsPath(p) {
			t.Errorf("FitsPath of %q", p)
		}
		lookFits(t, api.Header{Path: p, Type: '0'}, false)
	}
}

// Every length, with one / at every place, or none, or at two places.
func TestAllPartings(t *testing.T) {
	fit := 0
	for size := range 262 {
		plain := rep("n", size)
		lookPath(t, plain)
		for at := range size {
			one := plain[:at] + "/" + plain[at+1:]
			if lookPath(t, one) {
				fit++
				lookEncode(t, api.Header{Path: one, Type: '5'})
			}
			two := one[:size/2] + "/" + one[size/2+1:]
			lookPath(t, two)
			lookEncode(t, api.Header{Path: two, Type: 'x'})
		}
	}
	if fit < 5000 {
		t.Error(fit)
	}
}

// A text's bytes are from 1 to 127, wherever they stand; a rune beyond them doesn't fit, nor a byte of none.
func TestBytes(t *testing.T) {
	for c := range 256 {
		for _, text := range []string{string([]byte{byte(c)}), "a" + string([]byte{byte(c)}) + "b", rep("a", 99) + string([]byte{byte(c)}), string([]byte{byte(c)}) + rep("a", 99)} {
			want := c >= 1 && c <= 127
			if ustar.FitsPath(text) != want || ustar.FitsLink(text) != want {
				t.Errorf("%q: not %v", text, want)
			}
			lookFits(t, api.Header{Path: text, Type: '0'}, want)
			lookFits(t, api.Header{Path: "a", Type: '1', Link: text}, want)
			lookFits(t, api.Header{Path: rep("p", 55) + "/" + text, Type: '0'}, want)
			lookFits(t, api.Header{Path: text + "/" + rep("n", 100), Type: '0'}, want)
		}
	}
	for _, text := range []string{"é", "aé", "\u0080", "\u07ff", "\u0800", "一", "\U00010000", "\U0010ffff", "\ufffd", "\xff", "a\xc3", "\xc0\x80", "\xed\xa0\x80", "a\x00b", "\x00"} {
		if ustar.FitsPath(text) || ustar.FitsLink(text) || ustar.FitsPath("d/"+rep("n", 90)+text) || lookPath(t, text) {
			t.Errorf("%q", text)
		}
		lookFits(t, api.Header{Path: text, Type: '0'}, false)
	}
}

func TestFitsLink(t *testing.T) {
	for size := range 300 {
		l := rep("l", size)
		if got := ustar.FitsLink(l); got != (size >= 1 && size <= 100) {
			t.Errorf("FitsLink of %d bytes: %v", size, got)
		}
		for _, kind := range []byte{'1', '2'} {
			lookFits(t, api.Header{Path: "a", Type: kind, Link: l}, size >= 1 && size <= 100)
		}
	}
	if ustar.FitsLink("d/" + rep("l", 100)) { // a link isn't parted
		t.Error("102 bytes")
	}
}

func TestNumbers(t *testing.T) {
	for _, x := range []struct {
		n          int
		id, moment bool
	}{
		{0, true, true}, {1, true, true}, {7, true, true}, {8, true, true}, {420, true, true}, {262144, true, true}, {maxId - 1, true, true}, {maxId, true, true},
		{maxId + 1, false, true}, {1 << 32, false, true}, {1<<32 + 5, false, true}, {maxTime - 1, false, true}, {maxTime, false, true},
		{maxTime + 1, false, false}, {1 << 40, false, false}, {math.MaxInt, false, false}, {-1, false, false}, {-maxId, false, false}, {math.MinInt, false, false}, {math.MinInt + 5, false, false},
	} {
		if ustar.FitsId(x.n) != x.id || ustar.FitsTime(x.n) != x.moment {
			t.Errorf("%d: %v, %v", x.n, ustar.FitsId(x.n), ustar.FitsTime(x.n))
		}
		lookFits(t, api.Header{Path: "a", Type: '0', Mode: x.n}, x.id)
		lookFits(t, api.Header{Path: "a", Type: '0', Uid: x.n}, x.id)
		lookFits(t, api.Header{Path: "a", Type: '0', Gid: x.n}, x.id)
		lookFits(t, api.Header{Path: "a", Type: '0', Size: x.n}, x.moment)
		lookFits(t, api.Header{Path: "a", Type: 'x', Size: x.n}, x.moment)
		lookFits(t, api.Header{Path: "a", Type: '0', Time: x.n}, x.moment)
	}
}

// All bytes as types, each with and without a Link and a Size.
func TestTypes(t *testing.T) {
	for c := range 256 {
		kind := byte(c)
		links := kind == '1' || kind == '2'
		sizes := kind == '0' || kind == 'x'
		empty := kind == '5'
		lookFits(t, api.Header{Path: "a", Type: kind}, sizes || empty)
		lookFits(t, api.Header{Path: "a", Type: kind, Size: 1}, sizes)
		lookFits(t, api.Header{Path: "a", Type: kind, Link: "b"}, links)
		lookFits(t, api.Header{Path: "a", Type: kind, Link: "\x00"}, false)
		lookFits(t, api.Header{Path: "a", Type: kind, Link: "b", Size: 1}, false)
	}
}

func TestRandomHeaders(t *testing.T) {
	r := rand.New(rand.NewPCG(10, 1))
	fit := 0
	for range 50000 {
		h := randomHeader(r)
		lookPath(t, h.Path)
		if ustar.FitsLink(h.Link) != plainLink(h.Link) {
			t.Errorf("FitsLink of %q", h.Link)
		}
		if lookEncode(t, h) {
			fit++
		}
	}
	if fit < 10000 || fit > 45000 {
		t.Error(fit)
	}
}

// Texts of any length are asked.
func TestLongTexts(t *testing.T) {
	for _, text := range []string{rep("a", 1<<26), rep("/", 1<<26), rep("\x00", 1<<26)} {
		if ustar.FitsPath(text) || ustar.FitsLink(text) {
			t.Errorf("%d of %q", len(text), text[0])
		}
		for _, h := range []api.Header{{Path: text, Type: '0'}, {Path: "a", Type: '2', Link: text}} {
			if b, err := ustar.Encode(h); len(b) != 0 || err != api.ErrHeader {
				t.Error(len(b), err)
			}
		}
	}
}

// P10.4

func TestEncodeAnswersNewMemory(t *testing.T) {
	for _, h := range someHeaders() {
		first, _ := ustar.Encode(h)
		second, _ := ustar.Encode(h)
		if len(first) != 512 {
			t.Fatal(len(first))
		}
		for at := range first[:cap(first)] {
			first[:cap(first)][at] = 0xff
		}
		if third, err := ustar.Encode(h); string(second) != plainBlock(h) || string(third) != plainBlock(h) || err != nil {
			t.Errorf("%s: one answer is changed with another", tell(h))
		}
	}
}

// What the calls are handed as texts may be a piece of something greater.
func TestEncodeOfPieces(t *testing.T) {
	whole := rep("x", 100) + rep("/y", 150)
	h := api.Header{Path: whole[90:200], Type: '2', Link: whole[:100]}
	lookFits(t, h, true)
	if whole != rep("x", 100)+rep("/y", 150) {
		t.Error("changed")
	}
}
