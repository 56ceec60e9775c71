package ustar_test

import (
	"archive/tar"
	"bytes"
	"errors"
	"fmt"
	"io"
	"math/rand/v2"
	"slices"
	"testing"

	"amphora/api"
	"amphora/ustar"
)

// lookDecode holds Decode against the second account, and Encode of its header against the block.
func lookDecode(t *testing.T, b []byte) bool {
	t.Helper()
	before := string(b)
	want, ok := plainDecode(b)
	got, err := ustar.Decode(b)
	if got != want || ok && err != nil || !ok && err != api.ErrHeader {
		t.Errorf("Decode of %q: %s, %v, not %s, %v", b, tell(got), err, tell(want), ok)
	}
	if string(b) != before {
		t.Errorf("Decode changed %q", before)
	}
	if err != nil {
		return false
	}
	if again, err := ustar.Encode(got); string(again) != before || err != nil {
		t.Errorf("Encode of %s: %q, %v, not %q", tell(got), again, err, before)
	}
	return true
}

func lookRefused(t *testing.T, what, b string) {
	t.Helper()
	if lookDecode(t, []byte(b)) {
		t.Errorf("%s: taken", what)
	}
}

// laid is a block with other bytes from a place on, and the right sum.
func laid(b string, at int, piece string) string {
	return mended(b[:at] + piece + b[at+len(piece):])
}

// P10.1

func TestDecodeOfOtherLengths(t *testing.T) {
	block := plainBlock(someHeaders()[0])
	for size := range 1100 {
		b := (block + block + block)[:size]
		if lookDecode(t, []byte(b)) != (size == 512) {
			t.Errorf("%d bytes", size)
		}
		if size != 512 {
			lookRefused(t, "bytes 0", rep("\x00", size))
		}
	}
	lookRefused(t, "bytes 0", rep("\x00", 512))
	lookRefused(t, "bytes 0 and their sum", mended(rep("\x00", 512)))
	if h, err := ustar.Decode(nil); h != (api.Header{}) || err != api.ErrHeader {
		t.Error(tell(h), err)
	}
}

// Each of these has the right sum, and would be read by others as a header.
func TestDecodeOfOtherForms(t *testing.T) {
	file := plainBlock(api.Header{Path: "a", Mode: 420, Type: '0'})
	long := plainBlock(api.Header{Path: "a/b/" + rep("n", 99), Type: '0'}) // prefix a/b
	link := plainBlock(api.Header{Path: "a", Type: '2', Link: "b"})
	for what, b := range map[string]string{
		"no name":                           laid(file, 0, "\x00"),
		"bytes behind the name":             laid(file, 99, "x"),
		"bytes behind a byte 0":             laid(file, 0, "a\x00b"),
		"a name of é":                       laid(file, 0, "é"),
		"a name of ff":                      laid(file, 0, "\xff"),
		"a prefix of a short path":          laid(file, 345, "p"),
		"a prefix without a name":           laid(laid(file, 0, "\x00"), 345, "p"),
		"a prefix of 155 without a name":    laid(laid(file, 0, "\x00"), 345, rep("p", 155)),
		"a later parting":                   laid(laid(plainBlock(api.Header{Path: "a/b/" + rep("n", 98), Type: '0'}), 0, rep("n", 98)+"\x00\x00"), 345, "a/b"),
		"bytes behind the prefix":           laid(long, 499, "x"),
		"a prefix of é":                     laid(long, 345, "é"),
		"bytes at the end":                  laid(file, 511, "x"),
		"bytes right behind the prefix":     laid(file, 500, "x"),
		"bytes behind the version":          laid(file, 265, "x"),
		"an owner's name":                   laid(file, 265, "root"),
		"bytes ahead of the devices":        laid(file, 328, "x"),
		"a device":                          laid(file, 335, "1"),
		"another device":                    laid(file, 343, "1"),
		"devices of bytes 0":                laid(file, 329, rep("\x00", 16)),
		"blanks ahead of the mode":          laid(file, 100, "    644\x00"),
		"noughts left out":                  laid(file, 100, "644\x00\x00\x00\x00\x00"),
		"a blank behind the mode":           laid(file, 107, " "),
		"a digit behind the mode":           laid(file, 107, "0"),
		"a digit 8":                         laid(file, 106, "8"),
		"a digit 9":                         laid(file, 106, "9"),
		"a sign":                            laid(file, 100, "+000644"),
		"another sign":                      laid(file, 100, "-000644"),
		"a sign for a digit":                laid(file, 100, "000064,"),
		"a letter for a digit":              laid(file, 100, "000064d"),
		"a byte 4 for a digit":              laid(file, 100, "000064\x04"),
		"a digit and 128":                   laid(file, 100, "000064\xb4"),
		"an underscore":                     laid(file, 100, "000_644"),
		"a size of bytes":                   laid(file, 124, "\x80\x00\x00\x00\x00\x00\x00\x00\x00\x00\x00\x05"),
		"a size of twelve digits":           laid(file, 124, "000000000005"),
		"a time of twelve digits":           laid(file, 136, "000000000005"),
		"a blank behind the size":           laid(file, 135, " "),
		"a type of a byte 0":                laid(file, 156, "\x00"),
		"a type 3":                          laid(file, 156, "3"),
		"a type 7":                          laid(file, 156, "7"),
		"a type g":                          laid(file, 156, "g"),
		"a type L":                          laid(file, 156, "L"),
		"a type X":                          laid(file, 156, "X"),
		"a file with a link":                laid(file, 157, "b"),
		"a link without one":                laid(link, 157, "\x00"),
		"a link of é":                       laid(link, 157, "é"),
		"bytes behind the link":             laid(link, 256, "x"),
		"bytes behind a byte 0 in the link": laid(link, 157, "b\x00c"),
		"a link with a size":                laid(link, 134, "1"),
		"a directory with a size":           laid(laid(file, 156, "5"), 134, "1"),
		"GNU's magic":                       laid(file, 257, "ustar  \x00"),
		"another version":                   laid(file, 263, "01"),
		"a version of bytes 0":              laid(file, 263, "\x00\x00"),
		"no magic":                          laid(file, 257, rep("\x00", 8)),
		"capitals":                          laid(file, 257, "USTAR"),
	} {
		lookRefused(t, what, b)
	}
	for _, b := range []string{file, long, link, laid(file, 156, "5"), laid(file, 156, "x"), laid(file, 124, "00000000005"), laid(file, 0, "b"), laid(long, 345, "c"), laid(link, 156, "1")} {
		if !lookDecode(t, []byte(b)) {
			t.Errorf("refused: %q", b)
		}
	}
}

func TestDecodeOfSums(t *testing.T) {
	block := plainBlock(api.Header{Path: "a", Mode: 420, Type: '0'})
	signed := plainBlock(api.Header{Path: "a", Type: '0'})
	for _, sum := range []string{
		"007335\x00 ", "007337\x00 ", "000000\x00 ", "        ", "\x00\x00\x00\x00\x00\x00\x00\x00", "007336\x00\x00", "007336  ", "007336 \x00", "0007336\x00", "0007336 ",
		"  7336\x00 ", "7336\x00\x00\x00 ", "+07336\x00 ", "107336\x00 ", "00733>\x00 ", "007336\x000",
	} {
		lookRefused(t, fmt.Sprintf("the sum %q", sum), block[:148]+sum+block[156:])
	}
	for n := range 1 << 18 { // all six digits
		sum := fmt.Sprintf("%06o\x00 ", n)
		b := []byte(signed[:148] + sum + signed[156:])
		if _, err := ustar.Decode(b); (err == nil) != (n == plainSum(signed)) {
			t.Errorf("the sum %q: %v", sum, err)
		}
	}
}

func TestDecodeOfNoise(t *testing.T) {
	r := rand.New(rand.NewPCG(10, 2))
	for range 5000 {
		b := make([]byte, 512)
		for at := range b {
			b[at] = byte(r.Uint32())
		}
		lookRefused(t, "noise", string(b))
		lookRefused(t, "noise with its sum", mended(string(b)))
	}
}

// P10.2

func TestRandomBlocks(t *testing.T) {
	r := rand.New(rand.NewPCG(10, 3))
	taken, refused := 0, 0
	for range 60000 {
		h := randomHeader(r)
		if !plainFits(h) {
			continue
		}
		b := plainBlock(h)
		for range r.IntN(3) {
			at := pick(r, 0, 99, 100, 106, 107, 115, 123, 134, 135, 146, 147, 156, 157, 256, 264, 265, 328, 336, 345, 499, 500, r.IntN(512))
			b = laid(b, at, string([]byte{pick[byte](r, 0, 1, '0', '1', '5', '7', '8', 'x', '/', ' ', 128, 255)}))
		}
		if lookDecode(t, []byte(b)) {
			taken++
		} else {
			refused++
		}
	}
	if taken < 5000 || refused < 5000 {
		t.Error(taken, refused)
	}
}

// P10.3

// All changes of one byte. The sum is then wrong, or isn't a sum, so all of them are refused.
func TestOneByteChanged(t *testing.T) {
	for _, h := range someHeaders() {
		b := []byte(plainBlock(h))
		for at, held := range b {
			for c := range 256 {
				b[at] = byte(c)
				got, err := ustar.Decode(b)
				if byte(c) == held {
					if got != h || err != nil {
						t.Fatalf("%s, unchanged: %s, %v", tell(h), tell(got), err)
					}
				} else if got != (api.Header{}) || err != api.ErrHeader {
					t.Fatalf("%s, the byte %d as %d: %s, %v", tell(h), at, c, tell(got), err)
				}
			}
			b[at] = held
		}
	}
}

// With the sum that is right then, the block is refused, or says another header.
func TestOneByteChangedWithItsSum(t *testing.T) {
	taken := 0
	for _, h := range someHeaders()[:4] {
		block := plainBlock(h)
		for at := range 512 {
			for c := range 256 {
				b := laid(block, at, string([]byte{byte(c)}))
				if b == block || !lookDecode(t, []byte(b)) {
					continue
				}
				taken++
				if got, _ := ustar.Decode([]byte(b)); got == h {
					t.Fatalf("%s, the byte %d as %d: it says the same", tell(h), at, c)
				}
			}
		}
	}
	if taken < 10000 {
		t.Error(taken)
	}
}

// P10.4

func TestDecodeKeepsNothing(t *testing.T) {
	for _, h := range someHeaders() {
		spare := []byte("ahead" + plainBlock(h) + "behind")
		before := slices.Clone(spare)
		b := spare[5:517]
		got, err := ustar.Decode(b)
		if !bytes.Equal(spare, before) {
			t.Errorf("%s: what was handed in, or what stands beside it, is changed", tell(h))
		}
		clear(spare)
		if got != h || err != nil {
			t.Errorf("%s, %v: the header is changed with the block", tell(got), err)
		}
	}
}

// Go's own library reads the same from a block: that it is one of the format ustar doesn't hang on this project's words alone.
func TestLibraryReadsBlocks(t *testing.T) {
	r := rand.New(rand.NewPCG(10, 4))
	read := 0
	headers := someHeaders()
	for range 10000 {
		headers = append(headers, randomHeader(r))
	}
	for _, h := range headers {
		b, err := ustar.Encode(h)
		if err != nil || h.Type == 'x' || h.Path[len(h.Path)-1] == '/' { // records are read away by it, and such a path is a directory to it
			continue
		}
		got, err := tar.NewReader(io.MultiReader(bytes.NewReader(b), bytes.NewReader(make([]byte, 1024)))).Next()
		if err != nil && !errors.Is(err, tar.ErrInsecurePath) {
			t.Errorf("%s: %v", tell(h), err)
			continue
		}
		back := api.Header{Path: got.Name, Mode: int(got.Mode), Uid: got.Uid, Gid: got.Gid, Size: int(got.Size), Time: int(got.ModTime.Unix()), Type: got.Typeflag, Link: got.Linkname}
		if back != h || got.Format != tar.FormatUSTAR || got.Uname != "" || got.Gname != "" || got.Devmajor != 0 || got.Devminor != 0 {
			t.Errorf("%s is read as %s, of the format %v", tell(h), tell(back), got.Format)
		}
		read++
	}
	if read < 1000 {
		t.Error(read)
	}
}
