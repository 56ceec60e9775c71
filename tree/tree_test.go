package tree_test

import (
	"math/rand/v2"
	"slices"
	"strings"
	"testing"

	"amphora/api"
	"amphora/path"
	"amphora/tree"
)

// look holds the calls that find entries of any list against the second account.
func look(t *testing.T, list []api.Entry, p string) {
	t.Helper()
	before := tell(list)
	at := slices.IndexFunc(list, func(e api.Entry) bool { return e.Path == p })
	var want api.Entry
	if at >= 0 {
		want = list[at]
	}
	if got, ok := tree.Find(list, p); ok != (at >= 0) || tell([]api.Entry{got}) != tell([]api.Entry{want}) {
		t.Errorf("Find of %.60q in %.200s: %.60q, %v", p, names(list), got.Path, ok)
	}
	if got, want := tree.Children(list, p), plainChildren(list, p); !slices.Equal(got, want) {
		t.Errorf("Children of %.60q in %.200s: %.60q", p, names(list), got)
	}
	if got, want := slices.Collect(tree.Walk(list, p)), plainWalk(list, p); tell(got) != tell(want) {
		t.Errorf("Walk from %.60q in %.200s: %.200s", p, names(list), names(got))
	}
	if tell(list) != before {
		t.Errorf("a call changed %.200s", before)
	}
}

// P9.1

func TestExamples(t *testing.T) {
	whole := list(dir("a"), dir("a/b"), file("a/b/c", "c"), file("a/x", "x"))
	for p, want := range map[string]string{"": "a", "a": "b x", "a/b": "c", "a/b/c": "", "b": "", "q": "", "a/": "", "/": ""} {
		if got := tree.Children(whole, p); strings.Join(got, " ") != want {
			t.Errorf("Children of %q: %q", p, got)
		}
		look(t, whole, p)
	}
	for p, want := range map[string]string{"": "a a/b a/b/c a/x", "a": "a a/b a/b/c a/x", "a/b": "a/b a/b/c", "a/x": "a/x", "b": "", "a/": "", "a/b/": ""} {
		if got := names(slices.Collect(tree.Walk(whole, p))); got != want {
			t.Errorf("Walk from %q: %s", p, got)
		}
		look(t, whole, p)
	}
	if e, ok := tree.Find(whole, "a/x"); !ok || tell(list(e)) != tell(list(file("a/x", "x"))) {
		t.Error(e, ok)
	}
	for _, p := range []string{"", "x", "a/", "/a", "a/b/c/d", "A"} {
		if e, ok := tree.Find(whole, p); ok || tell(list(e)) != tell(make([]api.Entry, 1)) {
			t.Errorf("Find of %q: %v", p, e)
		}
	}
}

// Any list may be handed in: entries without paths, of one path, in any order, without parents.
func TestAnyList(t *testing.T) {
	odd := list(file("a/b", "1"), file("a/b", "2"), dir("a"), file("", "3"), file("a//b", "4"), file("a/", "5"), file("a/c/d", "6"), file("ab", "7"), file("/", "8"), dir("a"), file("x\xff", "9"), file("a/\x00", "10"))
	for p, want := range map[string][3]string{
		"":     {"3", "a ab a", "a/b a/b a  a//b a/ a/c/d ab / a x\xff a/\x00"},
		"a":    {"", "b b", "a/b a/b a a/c/d a"},
		"a/b":  {"1", "", "a/b a/b"},
		"a/c":  {"", "d", "a/c/d"},
		"a/":   {"5", "", "a/"},
		"a//b": {"4", "", "a//b"},
		"/":    {"8", "", "/"},
		"x":    {"", "", ""},
	} {
		e, _ := tree.Find(odd, p)
		got := [3]string{string(e.Data), strings.Join(tree.Children(odd, p), " "), names(slices.Collect(tree.Walk(odd, p)))}
		if got != want {
			t.Errorf("%q: %q", p, got)
		}
		look(t, odd, p)
	}
	for _, p := range []string{"", "a", "/", "\xff"} {
		look(t, nil, p)
		look(t, make([]api.Entry, 3), p)
	}
}

func TestRandomLooks(t *testing.T) {
	r := rand.New(rand.NewPCG(9, 5))
	for range 2000 {
		list := randomTree(r)
		for range r.IntN(4) {
			list = spoil(r, list)
		}
		if r.IntN(3) == 0 {
			list = mix(r, list)
		}
		look(t, list, "")
		look(t, list, pick(r, "a", "b", "a/b", "/", "a.", "a/", "\xff"))
		for _, e := range list {
			look(t, list, e.Path)
			look(t, list, plainParent(e.Path))
		}
	}
}

func TestSize(t *testing.T) {
	for want, list := range map[int][]api.Entry{
		0:             list(dir("a"), file("b", "")),
		10:            list(dir("a"), file("a/b", "hello"), file("", "wor"), api.Entry{Data: []byte("ld")}),
		20 * 65536:    full(20),
		300 * 1048576: slices.Repeat(list(api.Entry{Data: make([]byte, 1048576)}), 300),
	} {
		if got := tree.Size(list); got != want {
			t.Errorf("Size: %d, not %d", got, want)
		}
	}
	if tree.Size(nil) != 0 {
		t.Error("none have no bytes")
	}
}

func TestSame(t *testing.T) {
	whole := api.Entry{Path: "a", Kind: 2, Mode: 3, Uid: 4, Gid: 5, Time: 6, Link: "l", Data: []byte("data")}
	others := slices.Repeat(list(whole), 12)
	others[1].Path = "b"
	others[2].Kind++
	others[3].Mode++
	others[4].Uid++
	others[5].Gid++
	others[6].Time++
	others[7].Link = "m"
	others[8].Data = []byte("dato")
	others[9].Data = []byte("dat")
	others[10].Data = []byte("data\x00")
	others[11].Data = nil
	for i, a := range others {
		for j, b := range others {
			want := i == j
			if tree.Same(list(a), list(b)) != want || tree.Same(list(whole, a), list(whole, b)) != want || tree.Same(list(a, whole), list(b, whole)) != want {
				t.Errorf("%v and %v", a, b)
			}
		}
		if tree.Same(list(a), nil) || tree.Same(nil, list(a)) || tree.Same(list(a), list(a, a)) || tree.Same(list(a, whole), list(a)) {
			t.Errorf("%v and more of them", a)
		}
	}
	if tree.Same(list(dir("a"), dir("b")), list(dir("b"), dir("a"))) {
		t.Error("in another order")
	}
	if !tree.Same(nil, []api.Entry{}) || !tree.Same([]api.Entry{}, nil) || !tree.Same(nil, nil) || tree.Same(nil, make([]api.Entry, 1)) {
		t.Error("nil and empty lists are the same")
	}
	if !tree.Same([]api.Entry{{Data: nil}}, []api.Entry{{Data: []byte{}}}) {
		t.Error("nil and empty Data are the same")
	}
}

func TestCopy(t *testing.T) {
	r := rand.New(rand.NewPCG(9, 6))
	for range 2000 {
		list := spoil(r, spoil(r, randomTree(r)))
		other := spoil(r, list)
		if got := tree.Copy(list); tell(got) != tell(list) || !tree.Same(got, list) {
			t.Errorf("Copy of %.200s: %.200s", names(list), names(got))
		}
		if tree.Same(list, other) != (tell(list) == tell(other)) {
			t.Errorf("Same of %.200s and %.200s", names(list), names(other))
		}
	}
	if len(tree.Copy(nil)) != 0 || len(tree.Copy([]api.Entry{})) != 0 {
		t.Error("a copy of none")
	}
}

// P9.3

func TestWhatLiesBelow(t *testing.T) {
	r := rand.New(rand.NewPCG(9, 7))
	for range 3000 {
		whole := randomTree(r)
		children := 0
		for at, e := range whole {
			up, below := path.Parent(e.Path)
			if !slices.Contains(tree.Children(whole, up), path.Base(e.Path)) {
				t.Errorf("%q is no child of %q", e.Path, up)
			}
			if _, ok := tree.Find(whole, up); ok != below {
				t.Errorf("the parent of %q", e.Path)
			}
			children += len(tree.Children(whole, e.Path))
			got := slices.Collect(tree.Walk(whole, e.Path))
			if len(got) > len(whole)-at || tell(got) != tell(whole[at:at+len(got)]) {
				t.Fatalf("Walk from %q: %s", e.Path, names(got))
			}
			for i, other := range whole {
				if path.Above(e.Path, other.Path) && (i <= at || i >= at+len(got)) {
					t.Errorf("Walk from %q leaves %q out", e.Path, other.Path)
				}
			}
		}
		if children+len(tree.Children(whole, "")) != len(whole) {
			t.Error("each is the child of one")
		}
	}
}

// P9.4

// scramble changes all that an answer's memory has.
func scramble(t []api.Entry) {
	for at := range t {
		data := t[at].Data[:cap(t[at].Data)]
		for i := range data {
			data[i] ^= 0xff
		}
		t[at] = api.Entry{Path: "changed", Data: t[at].Data}
	}
}

func sample() []api.Entry {
	return list(dir("a"), file("a/f", "first"), file("a/g", "second"), hard("b", "a/f"), link("c", "a"))
}

// answers is what each call that answers entries answers of a list.
func answers(t *testing.T, list []api.Entry) [][]api.Entry {
	built, err := tree.Build(list...)
	if err != nil {
		t.Fatal(err)
	}
	found, _ := tree.Find(list, "a/f")
	return [][]api.Entry{built, tree.Copy(list), {found}, slices.Collect(tree.Walk(list, "")), slices.Collect(tree.Walk(list, "a"))}
}

func TestAnswersAreNew(t *testing.T) {
	whole := sample()
	before := tell(whole)
	for at := range answers(t, whole) {
		scramble(answers(t, whole)[at])
		if tell(whole) != before {
			t.Fatalf("the answer %d shares memory with what was handed in", at)
		}
		all := answers(t, whole)
		was := tell(all[at])
		given := sample()
		all = answers(t, given)
		scramble(given)
		if tell(all[at]) != was {
			t.Errorf("the answer %d keeps what was handed in", at)
		}
	}
	first := tree.Children(whole, "a")
	first[0], first[1] = "x", "y"
	if again := tree.Children(whole, "a"); !slices.Equal(again, []string{"f", "g"}) {
		t.Error(again)
	}
}

// Two entries that are handed in with the same Data are answered with their own.
func TestDataAreTheirOwn(t *testing.T) {
	data := []byte("shared")
	whole := list(api.Entry{Path: "a", Kind: api.KFile, Data: data}, api.Entry{Path: "b", Kind: api.KFile, Data: data[:3]})
	built, _ := tree.Build(whole...)
	for _, got := range [][]api.Entry{built, tree.Copy(whole), slices.Collect(tree.Walk(whole, ""))} {
		scramble(got[:1])
		if string(got[1].Data) != "sha" || string(data) != "shared" {
			t.Errorf("%q, %q", got[1].Data, data)
		}
		if got[1].Data = append(got[1].Data, "more"...); string(data) != "shared" {
			t.Errorf("%q", data)
		}
	}
}

func TestSpareRoomStays(t *testing.T) {
	room := list(file("b/c", "data"), hard("./d", "/b/c"), file("spare", "room"), dir("more"))
	room[0].Data = room[0].Data[:2]
	before := clone(room)
	all := [][]api.Entry{room[:2:2], room[:2]}
	for _, given := range all {
		built, err := tree.Build(given...)
		if err != nil || names(built) != "b b/c d" || built[2].Link != "b/c" {
			t.Fatal(names(built), err)
		}
		tree.Check(given)
		tree.Same(given, given)
		tree.Size(given)
		for range tree.Walk(given, "") {
		}
		if copied := tree.Copy(given); tell(append(copied, built...)[:2]) != tell(given) {
			t.Error("the copy isn't the same")
		}
		if tell(room) != tell(before) || string(room[0].Data[:4]) != "data" {
			t.Errorf("changed: %s", tell(room))
		}
	}
}

// Walk gives what stood when it was called, as often as it is gone over, also if what it gives is changed, or it is left half-way.
func TestWalkStands(t *testing.T) {
	whole := sample()
	want := tell(whole[:3])
	walk := tree.Walk(whole, "a")
	scramble(whole)
	whole[1] = file("a/h", "new")
	for range 3 {
		got := slices.Collect(walk)
		if tell(got) != want {
			t.Fatalf("Walk gives %s", tell(got))
		}
		scramble(got)
		for e := range walk {
			if e.Path == "a/f" {
				e.Data[0] = 'x'
				break
			}
		}
	}
	for one := range walk { // within one another
		n := 0
		for range walk {
			n++
		}
		if n != 3 || one.Path == "" {
			t.Error(n, one)
		}
	}
	for range tree.Walk(nil, "") {
		t.Error("of none")
	}
}
