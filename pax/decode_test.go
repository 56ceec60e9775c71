package pax_test

import (
	"math/rand/v2"
	"slices"
	"strconv"
	"strings"
	"testing"

	"amphora/api"
	"amphora/pax"
)

// lookDecode holds Decode against the second account, and Encode of its records against the bytes.
func lookDecode(t *testing.T, s string) bool {
	t.Helper()
	b := []byte(s)
	want, ok := plainDecode(s)
	got, err := pax.Decode(b)
	if !slices.Equal(got, want) || ok && err != nil || !ok && err != api.ErrRecord {
		t.Errorf("Decode of %.500q: %.500q, %v, not %.500q, %v", s, got, err, want, ok)
	}
	if string(b) != s {
		t.Errorf("Decode changed %.500q", s)
	}
	if err != nil {
		return false
	}
	if again, err := pax.Encode(got...); string(again) != s || err != nil {
		t.Errorf("Encode of %.500q: %.500q, %v, not %.500q", got, again, err, s)
	}
	return true
}

// lookTaken also says what is expected of the second account.
func lookTaken(t *testing.T, taken bool, s string) {
	t.Helper()
	if lookDecode(t, s) != taken {
		t.Errorf("%.500q: whether it is taken isn't %v", s, taken)
	}
}

// refused is for bytes that are too many for the second account.
func refused(t *testing.T, what, s string) {
	t.Helper()
	if got, err := pax.Decode([]byte(s)); len(got) != 0 || err != api.ErrRecord {
		t.Errorf("%s: %d records, %v", what, len(got), err)
	}
}

// P11.1

func TestDecodeOfExamples(t *testing.T) {
	lookTaken(t, true, "9 path=x\n")
	lookTaken(t, false, "10 path=x\n")
	lookTaken(t, false, "09 path=x\n")
	got, err := pax.Decode([]byte("12 mtime=-5\n14 path=a\nb=c\n"))
	want := []api.Record{{Key: "mtime", Value: "-5"}, {Key: "path", Value: "a\nb=c"}}
	if !slices.Equal(got, want) || err != nil {
		t.Error(got, err)
	}
	for _, none := range [][]byte{nil, {}} {
		if got, err := pax.Decode(none); len(got) != 0 || err != nil {
			t.Error(got, err)
		}
	}
}

func TestDecodeOfOtherForms(t *testing.T) {
	for _, s := range []string{
		"\n", " ", "0", "1", "5", "9", "=", "\x00", "a", "5 a=", "5 a=\n\x00", "5 a=\n\n", "5 a=\n ", "\n5 a=\n", " 5 a=\n", "\x005 a=\n", "5 a=\n5", "5 a=\n5 b=", // what is left, or stands ahead
		"05 a=\n", "06 a=\n", "005 a=\n", "6  a=\n", "5  a=\n", "+5 a=\n", "+6 a=\n", "-5 a=\n", "-6 a=\n", "5. a=\n", "0x5 a=\n", "0x7 a=\n", "1_1 a=1234\n", "5e0 a=\n", "٥ a=\n", "６ a=\n", // other forms of numbers
		"0 a=\n", "1 a=\n", "2 a=\n", "3 a=\n", "4 a=\n", "6 a=\n", "7 a=\n", "10 a=\n", "99 a=\n", "65536 a=\n", "65537 a=\n", // other lengths
		"9223372036854775807 a=\n", "9223372036854775808 a=\n", "18446744073709551621 a=\n", "-9223372036854775808 a=\n", "4294967301 a=\n", "99999999999999999999999999 a=\n",
		"5\ta=\n", "5\na=\n", "5=a \n", "5a= \n", "5\x00a=\n", "3 \n", "4 =\n", "4 a\n", "3 a", "2 ", "2\n", "1", "8 pathx=\n", "8 pathx\n", // other things in the places of the blank and =
		"4 =\n", "5 =a\n", "5 ==\n", "6  =a\n", "6 \n=a\n", "6 é=\n", "7 é=\n", "7 a b=\n", "7 \x7fa=\n", "6 \x00=\n", "6 a\x00=\n", "6 a\xff=\n", // no keywords
		"5 a=a", "5 a= ", "5 a=\r", "5 a=\x00", "6 a=\r", "9 path=xx", "9 path=x", // other ends
		"5 a=\n5 a=\n", "6 a=1\n6 a=1\n", "6 a=1\n6 a=2\n", "5 b=\n5 a=\n", "5 a=\n5 c=\n5 b=\n", "6 aa=\n5 a=\n", // keywords that don't rise
		"10 a=12345\n", "10 a=1234\n", "010 a=123\n", "10 a=5 b=\n", "10 a=\n5 b=\n", "5 a=\n6 b=\n", "6 a=\n5 b=\n", "4 a=\n5 b=\n", // lines that end elsewhere
		"99 k=" + rep("v", 94) + "\n", "100 k=" + rep("v", 94) + "\n", "100 k=" + rep("v", 93) + "\n", "0100 k=" + rep("v", 92) + "\n",
		"107 " + rep("k", 101) + "=\n", "207 " + rep("k", 201) + "=\n",
	} {
		lookTaken(t, false, s)
	}
	for _, s := range []string{
		"", "5 a=\n", "5 !=\n", "5 ~=\n", "6 a=\n\n", "6 a==\n", "7 a=\n\n\n", "6 a= \n", "6 a=\x00\n", "6 a=\xff\n", "6 a=\r\n", "7 a= \n\n", "9 a=5 b=\n", "9 a=1234\n", "11 a=5 b=\n\n",
		"5 a=\n5 b=\n", "5 a=\n6 aa=\n5 b=\n", "6 a=2\n6 b=1\n", "5 1=\n6 10=\n5 2=\n", "6 5=5\n", "5 5=\n",
		"99 k=" + rep("v", 93) + "\n", "101 k=" + rep("v", 94) + "\n", "106 " + rep("k", 100) + "=\n",
	} {
		lookTaken(t, true, s)
	}
}

// All short rows of the bytes that matter.
func TestAllShortRows(t *testing.T) {
	taken := 0
	row := make([]byte, 0, 7)
	var grow func()
	grow = func() {
		if lookDecode(t, string(row)) {
			taken++
		}
		if len(row) == cap(row) {
			return
		}
		for _, c := range []byte("0567 a=\n") {
			row = append(row, c)
			grow()
			row = row[:len(row)-1]
		}
	}
	grow()
	if want := 1 + 5 + 8*5 + 8*8*5 + 5*5 + 8*5*5 + 5*5*5; taken != want { // none; keywords of one byte and values of none to two; of two and none or one; of three
		t.Error(taken, want)
	}
}

// Each byte is made another, or left out, or has another ahead of it; and each two are made others that matter.
func TestChangedRows(t *testing.T) {
	alphabet := []byte("\x00\t\n +-012345679=ab~\x7f\x80\xff")
	for _, s := range []string{"5 a=\n", "5 a=\n5 b=\n", "6 a=\n\n6 b= \n", "9 path=x\n", "12 mtime=-5\n9 path=x\n", "11 a=12345\n9 b=1234\n"} {
		lookTaken(t, true, s)
		for x := range len(s) {
			for c := range 256 {
				lookDecode(t, s[:x]+string([]byte{byte(c)})+s[x+1:])
				lookDecode(t, s[:x]+string([]byte{byte(c)})+s[x:])
			}
			lookDecode(t, s[:x]+s[x+1:])
			for y := range x {
				for _, c := range alphabet {
					for _, d := range alphabet {
						lookDecode(t, s[:y]+string([]byte{d})+s[y+1:x]+string([]byte{c})+s[x+1:])
					}
				}
			}
		}
	}
}

// P11.2

// The looks hold of each row and of all records that are taken, here and everywhere, that one read and written is the other.
func TestRandomRows(t *testing.T) {
	r := rand.New(rand.NewPCG(11, 3))
	taken, not := 0, 0
	for range 30000 {
		var s strings.Builder
		for _, x := range randomRecords(r) {
			if len(x.Value) > 40 {
				x.Value = x.Value[:40]
			}
			line, _ := plainLine(x)
			s.WriteString(line)
		}
		row := s.String()
		for range r.IntN(3) {
			at := r.IntN(len(row) + 1)
			upto := min(len(row), at+r.IntN(2))
			row = row[:at] + pick(r, "", "\n", " ", "=", "0", "1", "9", "a", "\x00", "5 a=\n") + row[upto:]
		}
		if lookDecode(t, row) {
			taken++
		} else {
			not++
		}
	}
	if taken < 5000 || not < 5000 {
		t.Error(taken, not)
	}
}

// The limit is that of all bytes, and there are lines of all lengths up to it.
func TestDecodeOfMostBytes(t *testing.T) {
	longest := "65536 a=" + rep("v", 65536-9) + "\n"
	if got, err := pax.Decode([]byte(longest)); len(got) != 1 || got[0] != (api.Record{Key: "a", Value: rep("v", 65536-9)}) || err != nil {
		t.Error(len(got), err)
	}
	refused(t, "a line of a byte more", "65537 a="+rep("v", 65536-8)+"\n")
	refused(t, "the longest line with a byte behind it", longest+"\n")
	refused(t, "the longest line with another one behind it", longest+"5 b=\n")
	both := "5 a=\n65531 b=" + rep("v", 65531-9) + "\n"
	if got, err := pax.Decode([]byte(both)); len(got) != 2 || err != nil {
		t.Error(len(got), err)
	}
	refused(t, "two lines of a byte more", "5 a=\n65532 b="+rep("v", 65532-9)+"\n")
	refused(t, "two lines of a byte more", "6 a=1\n65531 b="+rep("v", 65531-9)+"\n")
}

// Rows of any length end soon.
func TestDecodeOfLongRows(t *testing.T) {
	for _, size := range []int{65536, 1 << 26} {
		for _, piece := range []string{"0", "5", " ", "=", "\n", "\x00", "5 a=\n", "1 ", "2 ", "0 "} {
			refused(t, strconv.Itoa(size)+" of "+strconv.Quote(piece), rep(piece, size/len(piece)))
		}
		for _, number := range []string{"1", "5", "65530", "65535", "65536"} {
			refused(t, "noughts", rep("0", size-len(number)-len(" a=\n"))+number+" a=\n")
		}
	}
}

// P11.4

func TestDecodeKeepsNothing(t *testing.T) {
	lines, _ := plainEncode(someRecords())
	spare := []byte("ahead" + lines + "behind")
	before := slices.Clone(spare)
	b := spare[len("ahead") : len(spare)-len("behind")]
	first, _ := pax.Decode(b)
	second, err := pax.Decode(b)
	if string(spare) != string(before) {
		t.Error("what was handed in, or what stands beside it, is changed")
	}
	clear(spare)
	clear(first[:cap(first)])
	if !slices.Equal(second, someRecords()) || err != nil {
		t.Error("an answer is changed with another, or with what was handed in")
	}
}
