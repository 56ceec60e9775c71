package tree_test

import (
	"math"
	"math/rand/v2"
	"slices"
	"strings"
	"testing"

	"amphora/api"
	"amphora/tree"
)

func lookCheck(t *testing.T, list []api.Entry, at int, want error) {
	t.Helper()
	before := tell(list)
	got, err := tree.Check(list)
	if got != at || err != want {
		t.Errorf("Check of %.200s: %d, %v, not %d, %v", names(list), got, err, at, want)
	}
	if tell(list) != before {
		t.Errorf("Check changed %.200s", before)
	}
}

// lookPlain holds Check against the second account, and that against what is expected.
func lookPlain(t *testing.T, list []api.Entry, at int, want error) {
	t.Helper()
	lookCheck(t, list, at, want)
	if plain, err := plainCheck(list); plain != at || err != want {
		t.Errorf("the second account of %.200s: %d, %v", names(list), plain, err)
	}
}

// P9.1

func TestCheckExamples(t *testing.T) {
	mode := file("a", "")
	mode.Mode = 4096
	lookPlain(t, list(dir("a"), dir("a/b"), file("a/b/c", "c"), file("a/x", "x")), -1, nil)
	lookPlain(t, list(file("a/b", "")), 0, api.ErrTree)
	lookPlain(t, list(mode), 0, api.ErrTree)
	lookPlain(t, list(file("b", ""), file("a", "")), 1, api.ErrTree)
	lookPlain(t, list(hard("a", "b"), file("b", "")), 0, api.ErrTree)
	lookPlain(t, list(file("a", ""), hard("b", "a")), -1, nil)
	lookPlain(t, nil, -1, nil)
	lookPlain(t, []api.Entry{}, -1, nil)
}

// Each number has its edges, the same ones for all kinds but a hard link, of which all are 0.
func TestNumbers(t *testing.T) {
	const most = 1 << 40
	for _, x := range []struct {
		n                     int
		mode, owner, timeFits bool
	}{
		{0, true, true, true}, {1, true, true, true}, {4095, true, true, true}, {4096, false, true, true}, {65536, false, true, true},
		{most - 1, false, true, true}, {most, false, true, true}, {most + 1, false, false, false}, {math.MaxInt, false, false, false},
		{-1, false, false, true}, {-most, false, false, true}, {-most - 1, false, false, false}, {math.MinInt, false, false, false},
	} {
		for kind := api.KDir; kind <= api.KHard; kind++ {
			for field, fits := range []bool{x.mode, x.owner, x.owner, x.timeFits} {
				e := []api.Entry{dir("b"), file("b", "data"), link("b", "x"), hard("b", "a")}[kind-1]
				*[]*int{&e.Mode, &e.Uid, &e.Gid, &e.Time}[field] = x.n
				at, want := -1, error(nil)
				if !fits || kind == api.KHard && x.n != 0 {
					at, want = 1, api.ErrTree
				}
				lookPlain(t, list(file("a", ""), e), at, want)
			}
		}
	}
}

func TestKinds(t *testing.T) {
	for _, kind := range []int{0, -1, 5, 6, math.MaxInt, math.MinInt, 1 + 1<<32, 2 + 1<<8} {
		lookPlain(t, list(api.Entry{Path: "a", Kind: kind}), 0, api.ErrTree)
		lookPlain(t, list(file("a", ""), api.Entry{Path: "b", Kind: kind, Link: "a"}), 1, api.ErrTree)
	}
	lookPlain(t, make([]api.Entry, 200), 0, api.ErrPath)
}

func TestLinkAndData(t *testing.T) {
	long, part := strings.Repeat("l", 400), strings.Repeat("p", 120)
	for _, x := range []struct {
		kind int
		link string
		data int
		good bool
	}{
		{api.KDir, "", 0, true}, {api.KDir, "", 1, false}, {api.KDir, "a", 0, false}, {api.KDir, "\x00", 0, false},
		{api.KFile, "", 0, true}, {api.KFile, "", 1, true}, {api.KFile, "", 65535, true}, {api.KFile, "", 65536, true}, {api.KFile, "", 65537, false}, {api.KFile, "", 1 << 21, false}, {api.KFile, "a", 0, false}, {api.KFile, "a", 5, false},
		{api.KLink, "", 0, false}, {api.KLink, "a", 0, true}, {api.KLink, "a", 1, false}, {api.KLink, "..", 0, true}, {api.KLink, "/x//./", 0, true}, {api.KLink, long, 0, true}, {api.KLink, long + "l", 0, false},
		{api.KLink, "a\x00", 0, false}, {api.KLink, "\xff", 0, false}, {api.KLink, strings.Repeat("é", 200), 0, true}, {api.KLink, strings.Repeat("é", 200) + "l", 0, false},
		{api.KHard, "", 0, false}, {api.KHard, "a", 0, true}, {api.KHard, "a", 1, false}, {api.KHard, "./a", 0, false}, {api.KHard, "a/", 0, false}, {api.KHard, "/a", 0, false}, {api.KHard, part, 0, true}, {api.KHard, part + "p", 0, false}, {api.KHard, "a\x00", 0, false},
	} {
		at, want := -1, error(nil)
		if !x.good {
			at, want = 2, api.ErrTree
		}
		lookPlain(t, list(file("a", ""), file(part, ""), api.Entry{Path: "z", Kind: x.kind, Link: x.link, Data: make([]byte, x.data)}), at, want)
	}
}

func TestPaths(t *testing.T) {
	long := strings.Repeat(strings.Repeat("p", 99)+"/", 4)
	dirs := list(dir(long[:99]), dir(long[:199]), dir(long[:299]))
	lookPlain(t, append(clone(dirs), file(long[:399], "")), -1, nil)
	lookPlain(t, append(clone(dirs), file(long[:399]+"p", "")), -1, nil)
	lookPlain(t, append(clone(dirs), file(long[:399]+"pp", "")), 3, api.ErrPath)
	for _, p := range []string{"", "/", "/b", "b/", "b//c", ".", "..", "./b", "b/.", "b/..", "b\x00", "\xff", strings.Repeat("b", 121)} {
		lookPlain(t, list(file(p, "")), 0, api.ErrPath)
		lookPlain(t, list(file("a", ""), file(p, "")), 1, api.ErrPath)
		lookPlain(t, list(file("a", ""), api.Entry{Path: p, Kind: 9, Mode: -1}), 1, api.ErrPath) // ahead of all else that is wrong
		lookPlain(t, append(full(16), file(p, "xx")), 16, api.ErrPath)
	}
}

func TestOrder(t *testing.T) {
	lookPlain(t, list(dir("a"), file("a/b", ""), file("a!", ""), file("a.b", ""), file("b", "")), -1, nil) // not byte by byte
	lookPlain(t, list(dir("a"), file("a.b", ""), file("a/b", "")), 2, api.ErrTree)
	lookPlain(t, list(dir("a"), file("a/b", ""), dir("a")), 2, api.ErrTree)
	lookPlain(t, list(file("a", ""), file("a", "")), 1, api.ErrTree)
	lookPlain(t, list(dir("a"), file("b", ""), dir("a")), 2, api.ErrTree)
	lookPlain(t, list(file("Z", ""), file("a", ""), file("é", ""), file("\uffff", ""), file("\U00010000", "")), -1, nil)
	lookPlain(t, list(file("\U00010000", ""), file("\uffff", "")), 1, api.ErrTree)
}

func TestParents(t *testing.T) {
	for _, above := range []api.Entry{dir("a"), file("a", ""), link("a", "b"), hard("a", "0")} {
		at, want := -1, error(nil)
		if above.Kind != api.KDir {
			at, want = 2, api.ErrTree
		}
		for _, below := range []api.Entry{dir("a/x"), file("a/x", ""), link("a/x", "b"), hard("a/x", "0")} {
			lookPlain(t, list(file("0", ""), above, below), at, want)
		}
	}
	lookPlain(t, list(dir("a"), file("a/b/c", "")), 1, api.ErrTree)
	lookPlain(t, list(dir("a"), dir("a/b"), file("a/b/c", ""), file("a/c/d", "")), 3, api.ErrTree)
	lookPlain(t, list(dir("a"), file("ab", ""), file("b/a", "")), 2, api.ErrTree)
	lookPlain(t, list(file("a/b", ""), dir("a")), 0, api.ErrTree) // it stands behind
}

func TestHardLinks(t *testing.T) {
	ahead := list(dir("d"), file("d/f", "f"), link("d/l", "f"), hard("d/m", "d/f"))
	for to, good := range map[string]bool{"d/f": true, "d": false, "d/l": false, "d/m": false, "h": false, "z": false, "q": false, "f": false, "d/f/": false} {
		at, want := -1, error(nil)
		if !good {
			at, want = 4, api.ErrTree
		}
		lookPlain(t, append(clone(ahead), hard("h", to), file("z", "")), at, want)
	}
	lookPlain(t, append(clone(ahead), hard("d/n", "d/f"), hard("e", "d/f")), -1, nil)
}

func TestRoom(t *testing.T) {
	lookPlain(t, full(16), -1, nil)
	lookPlain(t, full(17), 16, api.ErrLarge)
	lookPlain(t, append(full(16), file("g", ""), dir("h"), link("i", "g"), hard("j", "g")), -1, nil)
	lookPlain(t, append(full(16), file("g", ""), file("h", "x"), file("i", "")), 17, api.ErrLarge)
	lookPlain(t, append(append(list(file("a", "x")), full(15)...), file("g", strings.Repeat("x", 65535))), -1, nil)
	lookPlain(t, append(append(list(file("a", "x")), full(15)...), file("g", strings.Repeat("x", 65536))), 16, api.ErrLarge)
	lookPlain(t, append(full(16), file("a", "x")), 16, api.ErrTree) // ahead of ErrLarge
	lookPlain(t, append(full(17), dir("")), 16, api.ErrLarge)       // the first place
	lookPlain(t, append(full(15), file("g", strings.Repeat("x", 65537))), 15, api.ErrTree)
}

func TestMany(t *testing.T) {
	var files []api.Entry
	for i := range 400 {
		files = append(files, file(string(rune('一'+i)), ""))
	}
	for _, n := range []int{1, 199, 200} {
		lookPlain(t, files[:n], -1, nil)
	}
	for _, n := range []int{201, 202, 400} {
		lookPlain(t, files[:n], n, api.ErrMany)
	}
	slices.Reverse(files)
	lookPlain(t, files[:200], 1, api.ErrTree)
	lookPlain(t, files, 400, api.ErrMany)
	lookPlain(t, make([]api.Entry, 201), 201, api.ErrMany)
	lookPlain(t, make([]api.Entry, 100000), 100000, api.ErrMany)
}

func TestRandomLists(t *testing.T) {
	r := rand.New(rand.NewPCG(9, 1))
	seen := map[error]int{}
	for range 20000 {
		list := randomTree(r)
		lookPlain(t, list, -1, nil)
		for range 1 + r.IntN(2) {
			list = spoil(r, list)
			at, err := plainCheck(list)
			lookCheck(t, list, at, err)
			seen[err]++
		}
	}
	if seen[nil] < 2000 || seen[api.ErrTree] < 2000 || seen[api.ErrPath] < 500 {
		t.Error(seen)
	}
}
