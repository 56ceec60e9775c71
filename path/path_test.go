package path_test

import (
	"math"
	"math/rand/v2"
	"slices"
	"strings"
	"testing"

	"amphora/api"
	"amphora/path"
)

// A second account, in the words of the chapter: valid is what comes back from runes as it was; a text means a path by striking out pieces until none is to be struck out.

func plainText(s string, most int) bool {
	return len(s) >= 1 && len(s) <= most && string([]rune(s)) == s && !strings.Contains(s, "\x00")
}

func plainPart(s string) bool {
	return plainText(s, 120) && strings.Count(s, "/") == 0 && !slices.Contains([]string{".", ".."}, s)
}

func plainSplit(s string) []string {
	parts := strings.Split(s, "/")
	for _, p := range parts {
		if !plainPart(p) {
			return nil
		}
	}
	if len(s) > 400 {
		return nil
	}
	return parts
}

func plainNormal(s string) string {
	left := slices.DeleteFunc(strings.Split(s, "/"), func(p string) bool { return p == "" || p == "." })
	for at := slices.Index(left, ".."); at >= 0; at = slices.Index(left, "..") {
		if at == 0 {
			return ""
		}
		left = slices.Delete(left, at-1, at+1)
	}
	if p := strings.Join(left, "/"); plainSplit(p) != nil {
		return p
	}
	return ""
}

// short is every text of up to most of the pieces that the forms are made of.
func short(most int) []string {
	out := []string{""}
	from := 0
	for range most {
		until := len(out)
		for _, s := range out[from:until] {
			for _, more := range []string{"a", "b", ".", "/", "\x00", "é", "\xc3"} {
				out = append(out, s+more)
			}
		}
		from = until
	}
	return out
}

// random is a text in which there are paths, and things that are nearly some.
func random(r *rand.Rand) string {
	kinds := []string{"a", "b", "ab", "é", "a b", "...", ".a", "a.", "\u2028", "\ufffd", "\x01", "\x7f", "\\", "a", "b", "c"}
	if r.IntN(2) == 0 {
		kinds = append(kinds, "", ".", "..", "..", "..")
	}
	if r.IntN(4) == 0 {
		kinds = append(kinds, "\xff", "a\x00", strings.Repeat("y", 121))
	}
	if r.IntN(4) == 0 {
		kinds = append(kinds, strings.Repeat("z", 119), strings.Repeat("é", 60), strings.Repeat("x", 120))
	}
	var pieces []string
	for range r.IntN(9) {
		pieces = append(pieces, kinds[r.IntN(len(kinds))])
	}
	return strings.Join(pieces, "/")
}

// longest is a path of just so many bytes, of parts of at most a length.
func longest(bytes, part int) string {
	s := strings.Repeat(strings.Repeat("a", part)+"/", bytes/(part+1)+1)[:bytes]
	return strings.TrimSuffix(s, "/") + strings.Repeat("b", bytes-len(strings.TrimSuffix(s, "/")))
}

// look holds all calls that take one text against the second account.
func look(t *testing.T, s string) {
	t.Helper()
	parts := plainSplit(s)
	if path.Good(s) != (parts != nil) || path.Depth(s) != len(parts) || !slices.Equal(path.Split(s), parts) {
		t.Errorf("%.60q: %v, %d, %q", s, path.Good(s), path.Depth(s), path.Split(s))
	}
	base, parent, has := "", "", false
	if parts != nil {
		last := len(parts) - 1
		base, parent, has = parts[last], strings.Join(parts[:last], "/"), last > 0
	}
	if got := path.Base(s); got != base {
		t.Errorf("Base(%.60q): %q", s, got)
	}
	if got, ok := path.Parent(s); got != parent || ok != has {
		t.Errorf("Parent(%.60q): %q, %v", s, got, ok)
	}
	lookNormal(t, s, plainNormal(s))
}

// lookNormal holds what a text means against a path; there is none, if it's the empty text.
func lookNormal(t *testing.T, s, want string) {
	t.Helper()
	got, err := path.Normal(s)
	if got != want || (want == "") != (err == api.ErrPath) || (want != "") != (err == nil) {
		t.Errorf("Normal(%.60q): %q, %v, not %q", s, got, err, want)
	}
}

func lookJoin(t *testing.T, parts []string, want string) {
	t.Helper()
	before := slices.Clone(parts)
	got, err := path.Join(parts...)
	if got != want || (want == "") != (err == api.ErrPath) || (want != "") != (err == nil) {
		t.Errorf("Join(%.60q): %q, %v, not %q", parts, got, err, want)
	}
	if !slices.Equal(parts, before) {
		t.Errorf("Join changed %.60q", before)
	}
}

// P8.1

func TestExamples(t *testing.T) {
	for _, s := range []string{"a/b", "é", "a b", "..."} {
		if !path.Good(s) {
			t.Errorf("%q is a path", s)
		}
	}
	for _, s := range []string{"", "/a", "a/", "a//b", "a/.", "a/../b"} {
		if path.Good(s) {
			t.Errorf("%q is no path", s)
		}
	}
	if got := path.Split("a/b/c"); !slices.Equal(got, []string{"a", "b", "c"}) {
		t.Error(got)
	}
	lookJoin(t, []string{"a", "b/c"}, "")
	if got, ok := path.Parent("a/b"); got != "a" || !ok {
		t.Error(got, ok)
	}
	if got, ok := path.Parent("a"); got != "" || ok {
		t.Error(got, ok)
	}
	if got := path.Base("a/b"); got != "b" {
		t.Error(got)
	}
	for s, want := range map[string]string{"/a//b/./c/../d/": "a/b/d", "a/..": "", "..": "", "/": "", "a/../b": "b"} {
		lookNormal(t, s, want)
	}
}

func TestTexts(t *testing.T) {
	for _, s := range []string{"a", "/", ".", "..", " ", "\x01", "\x7f", "é", "\u2028", "\ufffd", "\ufeff", "\U0010ffff", "a/b\n"} {
		if !path.Text(s, len(s)) || !path.Text(s, math.MaxInt) {
			t.Errorf("%q is a text", s)
		}
		for _, most := range []int{len(s) - 1, 0, -1, math.MinInt} {
			if path.Text(s, most) {
				t.Errorf("%q has more than %d bytes", s, most)
			}
		}
	}
	for _, s := range []string{"", "\x00", "a\x00", "\x00a", "\xff", "a\xff", "\xc3", "\xa9", "\xc0\x80", "\xe0\x80\xaf", "\xed\xa0\x80", "\xf4\x90\x80\x80", "\xf0\x9f\x98", "é\x80"} {
		for _, most := range []int{0, len(s), 400, math.MaxInt, -1, math.MinInt} {
			if path.Text(s, most) {
				t.Errorf("%q is no text", s)
			}
		}
		look(t, s)
		look(t, "a/"+s)
		look(t, s+"/a")
	}
	for _, most := range []int{0, 1, 2, 3, 100, math.MaxInt} {
		for _, s := range short(3) {
			if path.Text(s, most) != plainText(s, most) {
				t.Errorf("Text(%q, %d)", s, most)
			}
		}
	}
}

// MaxPart and MaxPath count bytes, not runes.
func TestLimits(t *testing.T) {
	for s, want := range map[string]bool{
		strings.Repeat("a", 119):                          true,
		strings.Repeat("a", 120):                          true,
		strings.Repeat("a", 121):                          false,
		strings.Repeat("é", 60):                           true,
		strings.Repeat("é", 60) + "a":                     false,
		strings.Repeat("a", 119) + "é":                    false,
		"a/" + strings.Repeat("b", 120) + "/c":            true,
		"a/" + strings.Repeat("b", 121) + "/c":            false,
		strings.Repeat(".", 120):                          true,
		longest(399, 120):                                 true,
		longest(400, 120):                                 true,
		longest(401, 120):                                 false,
		longest(400, 1):                                   true,
		strings.Repeat("a/", 199) + "a":                   true,
		strings.Repeat("a/", 199) + "aa":                  true,
		strings.Repeat("a/", 199) + "é":                   true,
		strings.Repeat("a/", 199) + "éa":                  false,
		strings.Repeat("a/", 200) + "a":                   false,
		strings.Repeat("a/", 200):                         false,
		strings.Repeat(strings.Repeat("é", 50)+"/", 4):    false,
		strings.Repeat("/"+strings.Repeat("é", 50), 4):    false,
		strings.Repeat("abcdefghi/", 39) + "abcdefghij":   true,
		strings.Repeat("abcdefghi/", 39) + "abcdefghijk":  false,
		strings.Repeat("abcdefghi/", 1000) + "abcdefghij": false,
	} {
		if path.Good(s) != want {
			t.Errorf("%.20q of %d bytes: %v", s, len(s), !want)
		}
		look(t, s)
	}
}

func TestShortTexts(t *testing.T) {
	for _, s := range short(5) {
		look(t, s)
	}
}

func TestRandomTexts(t *testing.T) {
	r := rand.New(rand.NewPCG(8, 1))
	paths := 0
	for range 20000 {
		s := random(r)
		look(t, s)
		if path.Good(s) {
			paths++
		}
	}
	if paths < 1000 {
		t.Error(paths)
	}
}

func TestJoin(t *testing.T) {
	lookJoin(t, nil, "")
	lookJoin(t, []string{}, "")
	lookJoin(t, []string{"a"}, "a")
	lookJoin(t, []string{"a", "b", "é"}, "a/b/é")
	lookJoin(t, []string{"...", ".a"}, ".../.a")
	for _, s := range []string{"", ".", "..", "/", "a/", "/a", "a/b", "a\x00", "\xff", strings.Repeat("a", 121)} {
		lookJoin(t, []string{s}, "")
		lookJoin(t, []string{s, "a"}, "")
		lookJoin(t, []string{"a", s}, "")
		lookJoin(t, []string{"a", s, "b"}, "")
	}
	for _, s := range []string{longest(399, 120), longest(400, 120), longest(400, 7), longest(400, 1)} {
		lookJoin(t, strings.Split(s, "/"), s)
	}
	for _, s := range []string{longest(401, 120), longest(401, 7), longest(401, 1), longest(402, 7), longest(4000, 7)} {
		lookJoin(t, strings.Split(s, "/"), "")
	}
	lookJoin(t, make([]string, 100000), "")
	lookJoin(t, slices.Repeat([]string{"a"}, 100000), "")
	r := rand.New(rand.NewPCG(8, 2))
	for range 5000 {
		var parts []string
		for range r.IntN(5) {
			parts = append(parts, random(r))
		}
		want := strings.Join(parts, "/")
		if len(want) > 400 || !allParts(parts) {
			want = ""
		}
		lookJoin(t, parts, want)
	}
}

func allParts(parts []string) bool {
	return !slices.ContainsFunc(parts, func(p string) bool { return !plainPart(p) })
}

// A .. may take away what is no part, and what would be too long.
func TestNormal(t *testing.T) {
	for s, want := range map[string]string{
		"":                                     "",
		".":                                    "",
		"./.":                                  "",
		"./x":                                  "x",
		"x/.":                                  "x",
		"///x":                                 "x",
		"x///":                                 "x",
		"../x":                                 "",
		"x/../..":                              "",
		"x/../../y":                            "",
		"x/../y/..":                            "",
		"x/y/../..":                            "",
		"x/y/../../z":                          "z",
		"x/.//../z":                            "z",
		"x/.../y":                              "x/.../y",
		"x/..y/y..":                            "x/..y/y..",
		"\xff/../a":                            "a",
		"a/\x00/..":                            "a",
		"a/\x00":                               "",
		"a/\xff/b":                             "",
		"a/\xff/b/..":                          "",
		strings.Repeat("x", 1000) + "/../a":    "a",
		strings.Repeat("x", 1000) + "/a/..":    "",
		strings.Repeat("x", 121):               "",
		strings.Repeat("/", 5000) + "a":        "a",
		strings.Repeat("./", 5000) + "a":       "a",
		strings.Repeat("a/../", 5000) + "a":    "a",
		longest(400, 120) + "/":                longest(400, 120),
		longest(400, 120) + "/b/..":            longest(400, 120),
		longest(401, 120):                      "",
		longest(401, 120) + "/../" + "a/b/c/d": longest(401, 120)[:363] + "a/b/c/d",
		strings.Repeat("a/", 999) + "b" + strings.Repeat("/..", 999):  "a",
		strings.Repeat("a/", 999) + "b" + strings.Repeat("/..", 1000): "",
		strings.Repeat("a/", 999) + "b" + strings.Repeat("/..", 1001): "",
	} {
		lookNormal(t, s, want)
		if plain := plainNormal(s); plain != want {
			t.Errorf("the second account of %.60q: %q", s, plain)
		}
	}
}

// Each call ends in good time, also where there are very many pieces.
func TestLongTexts(t *testing.T) {
	const n = 1 << 22
	lookNormal(t, strings.Repeat("a/", n), "")
	lookNormal(t, strings.Repeat("a/", n)+strings.Repeat("../", n-1), "a")
	lookNormal(t, strings.Repeat("/", n), "")
	lookNormal(t, strings.Repeat("x", n), "")
	for _, s := range []string{strings.Repeat("/", n), strings.Repeat("a/", n), strings.Repeat("x", n)} {
		if path.Good(s) || path.Depth(s) != 0 || path.Split(s) != nil || path.Base(s) != "" || path.Above(s, s+"/a") || path.Above("a", s) {
			t.Errorf("%.8q is no path", s)
		}
		if path.Compare(s, s) != 0 || path.Compare(s, s+"/") != -1 || path.Compare(s+"a", s) != 1 {
			t.Errorf("%.8q", s)
		}
		if !path.Text(s, len(s)) {
			t.Errorf("%.8q is a text", s)
		}
		lookJoin(t, []string{"a", s}, "")
	}
}

func TestAnswersAreNew(t *testing.T) {
	first := path.Split("a/b")
	first[0], first[1] = "x", "y"
	if again := path.Split("a/b"); !slices.Equal(again, []string{"a", "b"}) {
		t.Error(again)
	}
	parts := []string{"a", "b", "c", "spare"}
	lookJoin(t, parts[:2], "a/b")
	if !slices.Equal(parts, []string{"a", "b", "c", "spare"}) {
		t.Error(parts)
	}
}

// P8.3

func TestJoinOfSplit(t *testing.T) {
	for _, p := range paths() {
		if got, err := path.Join(path.Split(p)...); got != p || err != nil {
			t.Errorf("Join of Split of %.60q: %q, %v", p, got, err)
		}
	}
}

func TestNormalOfPath(t *testing.T) {
	for _, p := range paths() {
		lookNormal(t, p, p)
	}
}

func TestNormalOfNormal(t *testing.T) {
	r := rand.New(rand.NewPCG(8, 3))
	texts := short(5)
	for range 20000 {
		texts = append(texts, random(r))
	}
	answered := 0
	for _, s := range texts {
		p, err := path.Normal(s)
		if err != nil {
			continue
		}
		answered++
		if !path.Good(p) {
			t.Errorf("Normal(%.60q) = %q, which is no path", s, p)
		}
		lookNormal(t, p, p)
	}
	if answered < 2000 {
		t.Error(answered)
	}
}
