package pax_test

import (
	"archive/tar"
	"bytes"
	"io"
	"maps"
	"math/rand/v2"
	"slices"
	"strconv"
	"strings"
	"testing"

	"amphora/api"
	"amphora/pax"
)

// lookLine holds Line against the second account, and asks what each line keeps.
func lookLine(t *testing.T, key, value string) bool {
	t.Helper()
	want, ok := plainLine(api.Record{Key: key, Value: value})
	got, err := pax.Line(key, value)
	if got != want || ok && err != nil || !ok && err != api.ErrRecord {
		t.Errorf("Line of %.200q (%d bytes), %.200q (%d bytes): %.200q, %v, not %.200q, %v", key, len(key), value, len(value), got, err, want, ok)
	}
	if err != nil {
		return false
	}
	if first, _, _ := strings.Cut(got, " "); first != strconv.Itoa(len(got)) || len(got) > maxRecords {
		t.Errorf("%.200q tells %s bytes, but has %d", got, first, len(got))
	}
	return true
}

// lookEncode holds Encode against the second account, and Decode of its bytes against the records.
func lookEncode(t *testing.T, records []api.Record) bool {
	t.Helper()
	before := slices.Clone(records)
	want, ok := plainEncode(records)
	got, err := pax.Encode(records...)
	if string(got) != want || ok && err != nil || !ok && err != api.ErrRecord {
		t.Errorf("Encode of %.500q: %.500q, %v, not %.500q, %v", records, got, err, want, ok)
	}
	if !slices.Equal(records, before) {
		t.Errorf("Encode changed %.500q", before)
	}
	if err != nil {
		return false
	}
	if back, err := pax.Decode(got); !slices.Equal(back, records) || err != nil {
		t.Errorf("Decode of %.500q: %.500q, %v", got, back, err)
	}
	return true
}

// lookForm also says what is expected of the second account.
func lookForm(t *testing.T, inForm bool, records ...api.Record) {
	t.Helper()
	if lookEncode(t, records) != inForm {
		t.Errorf("%.500q: whether they are in form isn't %v", records, inForm)
	}
}

func lookFind(t *testing.T, records []api.Record, key string) {
	t.Helper()
	want, wantOk := plainFind(records, key)
	if got, ok := pax.Find(records, key); got != want || ok != wantOk {
		t.Errorf("Find of %q in %q: %q, %v, not %q, %v", key, records, got, ok, want, wantOk)
	}
}

// P11.1

func TestExampleLines(t *testing.T) {
	for _, x := range []struct{ key, value, want string }{
		{"path", "x", "9 path=x\n"},
		{"a", "", "5 a=\n"},
		{"a", "1234", "9 a=1234\n"},
		{"a", "12345", "11 a=12345\n"},
		{"path", "é", "11 path=é\n"},
		{"mtime", "-1", "12 mtime=-1\n"},
		{"a", "b=c\nd ", "12 a=b=c\nd \n"},
	} {
		if got, err := pax.Line(x.key, x.value); got != x.want || err != nil {
			t.Errorf("%q, %q: %q, %v", x.key, x.value, got, err)
		}
		lookLine(t, x.key, x.value)
	}
	lookForm(t, false, api.Record{Key: "path", Value: "x"}, api.Record{Key: "mtime", Value: "0"})
	lookForm(t, true, api.Record{Key: "mtime", Value: "0"}, api.Record{Key: "path", Value: "x"})
}

// Where the digits of a length become one more, there is a length that no line has, and one that could be told in two ways.
func TestLengths(t *testing.T) {
	for _, x := range []struct{ behind, want int }{ // the bytes behind the digits
		{4, 5}, {7, 8}, {8, 9}, {9, 11}, {10, 12}, {96, 98}, {97, 99}, {98, 101}, {99, 102}, {996, 999}, {997, 1001}, {998, 1002}, {9995, 9999}, {9996, 10001}, {9997, 10002}, {65530, 65535}, {65531, 65536},
	} {
		value := rep("v", x.behind-len(" k=\n"))
		got, err := pax.Line("k", value)
		if len(got) != x.want || !strings.HasPrefix(got, strconv.Itoa(x.want)+" ") || err != nil {
			t.Errorf("%d bytes behind the digits: %d bytes, %.10q, %v", x.behind, len(got), got, err)
		}
	}
	for _, size := range slices.Concat(span(0, 1300), span(9900, 10100), span(65400, 65700)) {
		for _, key := range []string{"k", "path", rep("k", 100)} {
			if size >= len(key) {
				lookLine(t, key, rep("\n", size-len(key)))
			}
		}
	}
}

// span is the numbers from one on, up to another.
func span(from, to int) []int {
	var out []int
	for n := from; n < to; n++ {
		out = append(out, n)
	}
	return out
}

func TestLongestLine(t *testing.T) {
	for _, x := range []struct {
		key, value string
		good       bool
	}{
		{"a", rep("v", 65536-9), true}, {"a", rep("v", 65536-8), false}, {rep("k", 100), rep("v", 65536-108), true}, {rep("k", 100), rep("v", 65536-107), false},
		{"a", rep("v", 65536), false}, {"a", rep("v", 100000), false}, {"a", rep("v", 1<<26), false}, {rep("k", 1<<26), "", false}, {rep("k", 1<<26), rep("v", 1<<26), false},
	} {
		if got, err := pax.Line(x.key, x.value); x.good != (len(got) == 65536) || x.good != (err == nil) {
			t.Errorf("%d and %d bytes: %d, %v", len(x.key), len(x.value), len(got), err)
		}
		if got, err := pax.Encode(api.Record{Key: x.key, Value: x.value}); x.good != (len(got) == 65536) || x.good != (err == nil) {
			t.Errorf("Encode of %d and %d bytes: %d, %v", len(x.key), len(x.value), len(got), err)
		}
	}
}

// Each byte, wherever it stands in a keyword; in a value each may stand.
func TestKeywords(t *testing.T) {
	for c := range 256 {
		s := string([]byte{byte(c)})
		good := c >= 0x21 && c <= 0x7e && c != '='
		for _, key := range []string{s, "k" + s, s + "k", "k" + s + "k", rep("k", 99) + s, s + rep("k", 99)} {
			if lookLine(t, key, "v") != good {
				t.Errorf("the keyword %q isn't %v", key, good)
			}
			lookForm(t, good, api.Record{Key: key, Value: s})
		}
		if !lookLine(t, "k", s) || !lookLine(t, "k", "v"+s+"w") {
			t.Errorf("the value %q", s)
		}
	}
	for size := range 300 {
		key := rep("k", size)
		if lookLine(t, key, "") != (size >= 1 && size <= 100) {
			t.Errorf("a keyword of %d bytes", size)
		}
		lookForm(t, size >= 1 && size <= 100, api.Record{Key: key})
	}
	for _, key := range []string{"", "=", "a=", "=a", "a=b", "a b", " a", "a ", "é", "a\n", "a\x00", "a\x7f", "\xff", "\u0100"} {
		lookForm(t, false, api.Record{Key: key, Value: "v"})
	}
}

// Keys rise byte by byte, and none stands twice.
func TestRising(t *testing.T) {
	rising := []string{"!", "0", "1", "10", "2", "A", "Z", "a", "a!", "a.", "aa", "ab", "b", "gid", "linkpath", "mtime", "path", "uid", "{", "~", "~~"}
	for x, a := range rising {
		for y, b := range rising {
			lookForm(t, x < y, api.Record{Key: a}, api.Record{Key: b})
			lookForm(t, x < y, api.Record{Key: a, Value: "2"}, api.Record{Key: b, Value: "1"})
			lookForm(t, 0 < x && x < y, api.Record{Key: "!"}, api.Record{Key: a}, api.Record{Key: b})
			lookForm(t, x < y && b != "~~", api.Record{Key: a}, api.Record{Key: b}, api.Record{Key: "~~"})
		}
	}
	lookForm(t, true, someRecords()...)
	lookForm(t, false, api.Record{Key: "a", Value: "x"}, api.Record{Key: "a", Value: "x"})
	lookForm(t, false, api.Record{Key: "a"}, api.Record{Key: "c"}, api.Record{Key: "b"})
	lookForm(t, false, api.Record{Key: "a"}, api.Record{Key: ""})
	lookForm(t, false, api.Record{Key: ""}, api.Record{Key: "a"})
	lookForm(t, false, api.Record{})
}

func TestEncodeOfNone(t *testing.T) {
	for _, none := range [][]api.Record{nil, {}} {
		if b, err := pax.Encode(none...); len(b) != 0 || err != nil {
			t.Error(b, err)
		}
	}
}

// The limit is that of all lines together.
func TestMostBytes(t *testing.T) {
	many := make([]api.Record, 4096) // of 16 bytes each
	for at := range many {
		many[at] = api.Record{Key: "k" + strconv.Itoa(1000000+at), Value: "vvv"}
	}
	b, err := pax.Encode(many...)
	if len(b) != 65536 || err != nil {
		t.Fatal(len(b), err)
	}
	if back, err := pax.Decode(b); !slices.Equal(back, many) || err != nil {
		t.Error(len(back), err)
	}
	for _, at := range []int{0, 1, 2000, 4095} {
		more := slices.Clone(many)
		more[at].Value += "v"
		if b, err := pax.Encode(more...); len(b) != 0 || err != api.ErrRecord {
			t.Errorf("a byte more in the record %d: %d, %v", at, len(b), err)
		}
		more[at].Value = more[at].Value[:len(more[at].Value)-2]
		if b, err := pax.Encode(more...); len(b) != 65535 || err != nil {
			t.Errorf("a byte less in the record %d: %d, %v", at, len(b), err)
		}
	}
	for _, x := range []struct {
		first, second int // bytes of values
		good          bool
	}{{65536 - 9 - 5, 0, true}, {65536 - 9 - 4, 0, false}, {65536 - 9, 0, false}, {32768 - 9, 32768 - 9, true}, {32768 - 9, 32768 - 8, false}, {65536 - 9, 65536 - 9, false}} {
		lookForm(t, x.good, api.Record{Key: "a", Value: rep("v", x.first)}, api.Record{Key: "b", Value: rep("v", x.second)})
	}
}

// However many records are handed in, and however much they hold.
func TestEncodeOfVeryMany(t *testing.T) {
	value := rep("v", 1<<26)
	for _, r := range []api.Record{{}, {Key: "a"}, {Key: "a", Value: value}, {Key: value, Value: value}} {
		if b, err := pax.Encode(slices.Repeat([]api.Record{r}, 1<<20)...); len(b) != 0 || err != api.ErrRecord {
			t.Error(len(b), err)
		}
	}
	rising := make([]api.Record, 1<<20)
	for at := range rising {
		rising[at].Key = "k" + strconv.Itoa(1<<21+at)
	}
	if b, err := pax.Encode(rising...); len(b) != 0 || err != api.ErrRecord {
		t.Error(len(b), err)
	}
}

// Find takes any list, and any keyword.
func TestFind(t *testing.T) {
	l := []api.Record{{Key: "path", Value: "1"}, {Key: "b", Value: ""}, {Key: "a=b", Value: "2"}, {Key: "path", Value: "3"}, {Key: "", Value: "4"}, {Key: "b", Value: "5"}}
	for key, want := range map[string]string{"path": "1", "b": "", "a=b": "2", "": "4"} {
		if got, ok := pax.Find(l, key); got != want || !ok {
			t.Errorf("%q: %q, %v", key, got, ok)
		}
	}
	for _, key := range []string{"pat", "paths", "Path", "a", "a=", "c", " ", "\x00", rep("path", 1000)} {
		if got, ok := pax.Find(l, key); got != "" || ok {
			t.Errorf("%q: %q, %v", key, got, ok)
		}
	}
	for _, none := range [][]api.Record{nil, {}} {
		for _, key := range []string{"", "path"} {
			if got, ok := pax.Find(none, key); got != "" || ok {
				t.Errorf("%q in none: %q, %v", key, got, ok)
			}
		}
	}
	if got, ok := pax.Find([]api.Record{{Value: "x"}}, "y"); got != "" || ok {
		t.Error(got, ok)
	}
}

func TestRandomRecords(t *testing.T) {
	r := rand.New(rand.NewPCG(11, 1))
	taken, refused := 0, 0
	for range 20000 {
		records := randomRecords(r)
		if lookEncode(t, records) {
			taken++
		} else {
			refused++
		}
		for _, x := range records {
			lookLine(t, x.Key, x.Value)
			lookFind(t, records, x.Key)
		}
		lookFind(t, records, pick(r, "a", "b", "path", "", "zz"))
	}
	if taken < 5000 || refused < 1000 {
		t.Error(taken, refused)
	}
}

// P11.3

// That a line's first number is its length, lookLine asks of each line.
func TestBeginningsOfLines(t *testing.T) {
	records := someRecords()
	for _, value := range []string{"", "x", "1234", "12345", "\n", "\n\n\n", "5 a=\n", rep("v", 90), rep("\n", 1000), rep("5 a=\n", 100)} {
		records = append(records, api.Record{Key: "a", Value: value})
	}
	for _, r := range records {
		line, err := pax.Line(r.Key, r.Value)
		if err != nil {
			t.Fatal(err)
		}
		if back, err := pax.Decode([]byte(line)); len(back) != 1 || back[0] != r || err != nil {
			t.Errorf("%q: %q, %v", line, back, err)
		}
		for size := 1; size < len(line); size++ {
			if back, err := pax.Decode([]byte(line[:size])); len(back) != 0 || err != api.ErrRecord {
				t.Errorf("%d bytes of %q: %q, %v", size, line, back, err)
			}
		}
	}
}

// P11.4

func TestEncodeKeepsNothing(t *testing.T) {
	spare := append([]api.Record{{Key: "ahead"}}, append(someRecords(), api.Record{Key: "behind"})...)
	before := slices.Clone(spare)
	records := spare[1 : len(spare)-1]
	want, _ := plainEncode(records)
	first, _ := pax.Encode(records...)
	second, err := pax.Encode(records...)
	pax.Find(records, "path")
	if !slices.Equal(spare, before) {
		t.Error("what was handed in, or what stands beside it, is changed")
	}
	clear(spare)
	for at := range first[:cap(first)] {
		first[:cap(first)][at] = 0xff
	}
	if string(second) != want || err != nil {
		t.Error("an answer is changed with another, or with what was handed in")
	}
}

// Go's own library writes the same bytes, and reads the same from them: that they are of POSIX's form doesn't hang on this project's words alone.
func TestLibraryWritesAndReadsTheSame(t *testing.T) {
	r := rand.New(rand.NewPCG(11, 2))
	looked := 0
	for range 3000 {
		records := randomRecords(r)
		b, err := pax.Encode(records...)
		if err != nil || len(b) == 0 {
			continue
		}
		pairs := map[string]string{}
		for _, x := range records {
			pairs["AMPHORA."+x.Key] = x.Value // beyond the library's own keywords it asks nothing of values
		}
		for at := range records {
			records[at].Key = "AMPHORA." + records[at].Key
		}
		if b, err = pax.Encode(records...); err != nil { // a keyword became too long
			continue
		}
		var archive bytes.Buffer
		w := tar.NewWriter(&archive)
		if err := w.WriteHeader(&tar.Header{Typeflag: tar.TypeXGlobalHeader, PAXRecords: pairs}); err != nil {
			t.Fatal(err)
		}
		if err := w.Flush(); err != nil {
			t.Fatal(err)
		}
		written := archive.Bytes()
		if padded := append(slices.Clone(b), make([]byte, (512-len(b)%512)%512)...); !bytes.Equal(written[512:], padded) {
			t.Fatalf("%q: the library writes %q, not %q", records, written[512:], padded)
		}
		copy(written[512:], b)
		got, err := tar.NewReader(io.MultiReader(bytes.NewReader(written), bytes.NewReader(make([]byte, 1024)))).Next()
		if err != nil || !maps.Equal(got.PAXRecords, pairs) {
			t.Fatalf("%q: the library reads %v, %v", records, got, err)
		}
		looked++
	}
	if looked < 1000 {
		t.Error(looked)
	}
}
