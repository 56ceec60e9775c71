package path_test

import (
	"math/rand/v2"
	"slices"
	"strings"
	"testing"

	"amphora/path"
)

func plainCompare(a, b string) int {
	return slices.Compare(strings.Split(a, "/"), strings.Split(b, "/"))
}

func plainAbove(a, b string) bool {
	x, y := plainSplit(a), plainSplit(b)
	return x != nil && len(y) > len(x) && slices.Equal(x, y[:len(x)])
}

// paths is many paths, all short ones of a few parts among them: by parts that come on either side of a / byte by byte.
func paths() []string {
	parts := []string{"a", "a.", "a0", "b", "é", "\x01", "..."}
	out := slices.Clone(parts)
	from := 0
	for range 2 {
		until := len(out)
		for _, p := range out[from:until] {
			for _, part := range parts {
				out = append(out, p+"/"+part)
			}
		}
		from = until
	}
	for _, n := range []int{1, 2, 7, 120} {
		for bytes := 396; bytes <= 400; bytes++ {
			out = append(out, longest(bytes, n))
		}
	}
	return out
}

func lookOrder(t *testing.T, a, b string) {
	t.Helper()
	if got, want := path.Compare(a, b), plainCompare(a, b); got != want {
		t.Errorf("Compare(%.60q, %.60q): %d", a, b, got)
	}
	if got, want := path.Above(a, b), plainAbove(a, b); got != want {
		t.Errorf("Above(%.60q, %.60q): %v", a, b, got)
	}
}

// P8.1

func TestOrderExamples(t *testing.T) {
	for _, x := range []struct {
		a, b  string
		order int
		above bool
	}{
		{"a/b", "a.b", -1, false},
		{"a", "a/b", -1, true},
		{"a/z", "a/z", 0, false},
		{"a", "a/b/c", -1, true},
		{"a", "ab", -1, false},
		{"a", "a", 0, false},
		{"a/b", "a/b/c", -1, true},
		{"a/b", "a/bc", -1, false},
		{"b", "a/b", 1, false},
		{"", "", 0, false},
		{"", "a", -1, false},
		{"", "/", -1, false}, // one empty piece, and two
		{"", "/a", -1, false},
		{"/", "//", -1, false},
		{"a", "a/", -1, false},
		{"a/", "a/a", -1, false},
		{"a/", "a//", -1, false},
		{"a//b", "a/b", -1, false},
		{"a/\x00", "a\x00", -1, false},
		{"a\x00", "a\x00/b", -1, false},
		{"Z", "a", -1, false},
		{"z", "é", -1, false},
		{"é", "\xff", -1, false},
		{"\uffff", "\U00010000", -1, false}, // by bytes
		{"a/../b", "a/../b/c", -1, false},
		{".", "./a", -1, false},
	} {
		if got := path.Compare(x.a, x.b); got != x.order {
			t.Errorf("Compare(%q, %q): %d", x.a, x.b, got)
		}
		if got := path.Compare(x.b, x.a); got != -x.order {
			t.Errorf("Compare(%q, %q): %d", x.b, x.a, got)
		}
		if got := path.Above(x.a, x.b); got != x.above {
			t.Errorf("Above(%q, %q): %v", x.a, x.b, got)
		}
		if path.Above(x.b, x.a) {
			t.Errorf("Above(%q, %q)", x.b, x.a)
		}
	}
}

func TestOrderOfPairs(t *testing.T) {
	texts := short(3)
	for _, a := range texts {
		for _, b := range texts {
			lookOrder(t, a, b)
		}
	}
	some := paths()
	for _, a := range some {
		for _, b := range some {
			lookOrder(t, a, b)
		}
	}
	r := rand.New(rand.NewPCG(8, 4))
	for range 20000 {
		a, b := random(r), random(r)
		lookOrder(t, a, b)
		lookOrder(t, a, a+"/"+b)
		lookOrder(t, a+"/"+b, a)
		lookOrder(t, a, a+b)
	}
}

// Both must be paths: not one alone.
func TestAboveOfNoPaths(t *testing.T) {
	for _, s := range []string{"a/.", "a/..", "a//b", "a/", "a/b/", "a/\xff", "a/\x00", "a/" + strings.Repeat("b", 121), "a/" + longest(399, 120)} {
		if path.Above("a", s) || path.Above(s, s+"/a") {
			t.Errorf("%.60q is no path", s)
		}
	}
	if !path.Above("a", "a/"+longest(398, 120)) {
		t.Error("a lies above a path of 400 bytes")
	}
	for _, s := range []string{"", "/", ".", "..", "\xff", "/a"} {
		if path.Above(s, s+"/a") || path.Above(s, "a") {
			t.Errorf("%q is no path", s)
		}
	}
}

// P8.2

func TestCompareIsNoughtOfItselfAlone(t *testing.T) {
	texts := append(short(3), paths()...)
	slices.Sort(texts)
	texts = slices.Compact(texts)
	for i, a := range texts {
		for j, b := range texts {
			c := path.Compare(a, b)
			if (c == 0) != (i == j) || c != -path.Compare(b, a) || c < -1 || c > 1 {
				t.Fatalf("Compare(%q, %q): %d", a, b, c)
			}
		}
	}
}

func TestCompareIsTransitive(t *testing.T) {
	texts := short(2)
	texts = append(texts, "a/b/c", "a/b.", "a.b", "a!b", "a/", "a//", "//a", "ab/c", "\xff/a", "a/\xff")
	for _, a := range texts {
		for _, b := range texts {
			for _, c := range texts {
				if path.Compare(a, b) < 0 && path.Compare(b, c) < 0 && path.Compare(a, c) >= 0 {
					t.Fatalf("%q, %q, %q", a, b, c)
				}
			}
		}
	}
}

// In order, a path stands ahead of all that it lies above, and nothing else stands among these.
func TestWhatLiesBelowStandsTogether(t *testing.T) {
	all := paths()
	r := rand.New(rand.NewPCG(8, 5))
	r.Shuffle(len(all), func(i, j int) { all[i], all[j] = all[j], all[i] })
	slices.SortFunc(all, path.Compare)
	all = slices.Compact(all)
	for at, p := range all {
		behind := at + 1
		for behind < len(all) && plainAbove(p, all[behind]) {
			behind++
		}
		for _, q := range slices.Concat(all[:at], all[behind:]) {
			if plainAbove(p, q) {
				t.Errorf("%q stands apart from %q, which lies above it", q, p)
			}
		}
	}
}
