package tree_test

import (
	"math/rand/v2"
	"slices"
	"strings"
	"testing"

	"amphora/api"
	"amphora/path"
	"amphora/tree"
)

func lookBuild(t *testing.T, entries, want []api.Entry, code error) {
	t.Helper()
	before := tell(entries)
	got, err := tree.Build(entries...)
	if tell(got) != tell(want) || err != code {
		t.Errorf("Build of %.200s: %.200s, %v, not %.200s, %v", names(entries), names(got), err, names(want), code)
	}
	if tell(entries) != before {
		t.Errorf("Build changed %.200s", before)
	}
}

// lookBuilt holds Build against the second account, and that against the error that is expected.
func lookBuilt(t *testing.T, entries []api.Entry, code error) {
	t.Helper()
	want, err := plainBuild(entries)
	if err != code {
		t.Errorf("the second account of %.200s: %v", names(entries), err)
	}
	lookBuild(t, entries, want, code)
}

// P9.1

func TestBuildExamples(t *testing.T) {
	lookBuild(t, list(file("a/b/c", "c"), file("a/./x", "x")), list(dir("a"), dir("a/b"), file("a/b/c", "c"), file("a/x", "x")), nil)
	lookBuild(t, nil, nil, nil)
	lookBuild(t, []api.Entry{}, nil, nil)
	if got, err := tree.Build(); len(got) != 0 || err != nil {
		t.Error(got, err)
	}
}

// Only what is missing is put in: an entry that was handed in stays as it is, wherever it stood.
func TestBuildParents(t *testing.T) {
	own := api.Entry{Path: "a/b", Kind: api.KDir, Mode: 448, Uid: 1, Gid: 2, Time: 3}
	for _, entries := range [][]api.Entry{list(own, file("a/b/c/d", "")), list(file("a/b/c/d", ""), own)} {
		lookBuild(t, entries, list(dir("a"), own, dir("a/b/c"), file("a/b/c/d", "")), nil)
	}
	lookBuild(t, list(link("x/y/l", "../.."), dir("x/y/d"), file("w/f", "f"), hard("x/h", "w/f")),
		list(dir("w"), file("w/f", "f"), dir("x"), hard("x/h", "w/f"), dir("x/y"), dir("x/y/d"), link("x/y/l", "../..")), nil)
	lookBuild(t, list(file("a.b", ""), file("a/b", "")), list(dir("a"), file("a/b", ""), file("a.b", "")), nil)
	for _, above := range []api.Entry{file("a", ""), link("a", "b"), {Path: "a"}} {
		lookBuilt(t, list(file("a/b", ""), above), api.ErrTree)
		lookBuilt(t, list(above, file("a/b/c", "")), api.ErrTree)
	}
}

// What a path means counts, and what a hard link's Link means, but not a symbolic one's.
func TestBuildNormal(t *testing.T) {
	lookBuild(t, list(file("/a//b/./c/../d/", "d")), list(dir("a"), dir("a/b"), file("a/b/d", "d")), nil)
	lookBuild(t, list(file("a", "a"), hard("./b", "x/..//a/"), link("c/", "x/..//a/")), list(file("a", "a"), hard("b", "a"), link("c", "x/..//a/")), nil)
	lookBuild(t, list(link("a", "..")), list(link("a", "..")), nil)
	for _, p := range []string{"", "/", ".", "..", "../a", "a/..", "a/../..", "a\x00", "\xff", strings.Repeat("a", 121), deep(201)} {
		lookBuilt(t, list(file(p, "")), api.ErrPath)
		lookBuilt(t, list(file("b", ""), hard("c", p)), api.ErrPath)
		lookBuilt(t, list(file("b", ""), file(p, "")), api.ErrPath)
		lookBuilt(t, list(file("b", ""), api.Entry{Path: "c", Kind: api.KFile, Link: p + "x"}), api.ErrTree)
	}
}

func TestBuildErrors(t *testing.T) {
	bad := api.Entry{Path: "a", Kind: api.KFile, Mode: -1}
	lookBuilt(t, make([]api.Entry, 201), api.ErrMany) // ahead of ErrPath
	lookBuilt(t, make([]api.Entry, 200), api.ErrPath)
	lookBuilt(t, list(file("a", ""), file("a", ""), file("..", "")), api.ErrPath) // ahead of two of one path
	lookBuilt(t, list(bad, hard("b", "..")), api.ErrPath)
	lookBuilt(t, list(file("a", ""), file("./a", "")), api.ErrTree)
	lookBuilt(t, list(file("b/a", ""), dir("b"), file("b/x/../a", "")), api.ErrTree)
	lookBuilt(t, list(dir("a"), dir("a")), api.ErrTree)
	lookBuilt(t, list(file(deep(200), ""), file("b", ""), file("b", "")), api.ErrTree) // ahead of ErrMany with the parents
	lookBuilt(t, list(file(deep(200), ""), bad), api.ErrTree)
	lookBuilt(t, list(file(deep(200), ""), file("b", ""), api.Entry{Path: "b/c", Kind: 9}), api.ErrMany)
	lookBuilt(t, list(hard("b", "c"), file("c", "")), api.ErrTree)
	lookBuilt(t, list(hard("b", "b")), api.ErrTree)
	lookBuilt(t, list(dir("a"), hard("b", "a")), api.ErrTree)
	lookBuilt(t, list(hard("b", "a"), file("a/c", "")), api.ErrTree) // a is a directory that is put in
	lookBuilt(t, full(17), api.ErrLarge)
	lookBuilt(t, append(full(17), api.Entry{Path: "g", Kind: 9}), api.ErrLarge) // the first place in order
	lookBuilt(t, append(full(17), api.Entry{Path: "e", Kind: 9}), api.ErrTree)
	lookBuilt(t, list(file("a", strings.Repeat("x", 65537))), api.ErrTree)
}

func TestBuildMany(t *testing.T) {
	lookBuilt(t, list(file(deep(200), "")), nil) // 200 entries
	lookBuilt(t, list(file(deep(199), ""), file("b", "")), nil)
	lookBuilt(t, list(file(deep(200), ""), file("b", "")), api.ErrMany)
	lookBuilt(t, list(file(deep(150), ""), file("b/"+deep(49), "")), nil)
	lookBuilt(t, list(file(deep(150), ""), file("b/"+deep(50), "")), api.ErrMany)
	var far []api.Entry
	for i := range 200 {
		far = append(far, file(string(rune('b'+i%24))+string(rune('b'+i/24))+"/"+deep(190), ""))
	}
	lookBuild(t, far, nil, api.ErrMany)
	lookBuilt(t, append(full(16), file("x/y", "")), nil)
}

func TestRandomBuilds(t *testing.T) {
	r := rand.New(rand.NewPCG(9, 2))
	built := 0
	for range 10000 {
		entries := mix(r, randomTree(r))
		for range r.IntN(3) {
			entries = spoil(r, entries)
		}
		for at := range entries {
			entries[at].Path = unnormal(r, entries[at].Path)
			if entries[at].Kind == api.KHard {
				entries[at].Link = unnormal(r, entries[at].Link)
			}
		}
		want, err := plainBuild(entries)
		lookBuild(t, entries, want, err)
		if err == nil {
			built++
		}
	}
	if built < 2000 || built > 9000 {
		t.Error(built)
	}
}

// P9.2

func TestBuildOfTree(t *testing.T) {
	r := rand.New(rand.NewPCG(9, 3))
	for range 3000 {
		whole := randomTree(r)
		lookBuild(t, mix(r, whole), whole, nil)
	}
	for _, whole := range [][]api.Entry{full(16), list(dir("a"), file("a/b", ""), file("a.b", ""))} {
		lookBuild(t, mix(r, whole), whole, nil)
	}
}

// What was handed in is in the tree as it was; all else there are directories that lie above some of it.
func TestBuildAddsDirectoriesAlone(t *testing.T) {
	r := rand.New(rand.NewPCG(9, 4))
	added := 0
	for range 3000 {
		entries := slices.DeleteFunc(mix(r, randomTree(r)), func(e api.Entry) bool { return e.Kind == api.KDir && r.IntN(3) > 0 })
		got, err := tree.Build(entries...)
		if err != nil {
			t.Fatal(err)
		}
		lookCheck(t, got, -1, nil)
		for _, e := range entries {
			if in, ok := tree.Find(got, e.Path); !ok || tell(list(in)) != tell(list(e)) {
				t.Errorf("%q is not there as it was", e.Path)
			}
		}
		for _, e := range got {
			if slices.ContainsFunc(entries, func(x api.Entry) bool { return x.Path == e.Path }) {
				continue
			}
			added++
			if tell(list(e)) != tell(list(dir(e.Path))) || !slices.ContainsFunc(entries, func(x api.Entry) bool { return path.Above(e.Path, x.Path) }) {
				t.Errorf("%q is put in", e.Path)
			}
		}
	}
	if added < 1000 {
		t.Error(added)
	}
}
